import PyProof.Rows.All
import Wide.All
import OpenK.AllK
import Wide.FinOn
import KE.KSuper
import HandS.ForMost
import HandS.Codes
import HandS.Nested
import KE.KExcSuper
import HandS.Exc
import HandS.ExcInit
import HandS.FStr
import HandS.WordsExc
import HandS.ExcOwn
import HandS.TryOnly
import HandS.IsInst
import HandS.MakeKw
import HandS.MakeKwOnly
import HandS.Property
import HandS.ClsMeth
import HandS.RaiseMore
import HandS.Walk
import PyProof.ReprRoads
import KE.KCallOwn
import HandS.SetBool
import HandS.SetKeys
import HandS.DictComp
import HandS.Star
import HandS.MethStar
import HandS.CallLocal
import HandS.WordsList
import HandS.More
import HandS.WordsDict
import HandS.Conv
import HandS.Iter
import HandS.DictEq
import HandS.OwnEq
import HandS.Lambda
import KE.KDictSum
import PyProof.TupleOfSeq
import HandS.TupAny
import KE.KExcInit
import HandS.ExcField
import HandS.ExcIs
import HandS.ExcValue
import KE.KExcIs
import PyProof.Rows.SortStr
import HandS.BoundList
import PyProof.ReprBulk
import KE.KOpsOwn
import KE.KParD
import HandS.Words
import HandS.Deep
import HandS.Strs
import HandS.SetFor
import KE.KSortTupG
import HandS.Comp
import HandS.EndTab
import HandS.EndOwn
import PyProof.FactsAll.set_2
import PyProof.IsRules
import HandS.Style
import PySem.Challenge.RW_strayjoins_k10_boards_refused
set_option Elab.async false
set_option linter.all false
set_option maxRecDepth 100000
set_option maxHeartbeats 8000000
namespace Sup
open PySem PySem.Spec PyProof.Rows L2
open NdefX (NF NScope ncx envF startF CellsAt inv_startN)
/-! ### a def of a class body that says super(): it closes over the class -/
structure FunS (P : Program) (K : PySem.W.Frag) (x qual : Str) (st : Stmt) (f : Addr) (fd : FuncData) (c cc D : Addr) : Prop where
  ex : ∃ (oc : Value) (od : Option Addr) (kV doc pm : Value) (an : Option Addr) (ct : Value) (osl : Array (Option Value)),
    fd = PySem.W.fnX x qual (defArgs st) (defBody st) (defScope st) [("__class__", cc)] .none kV doc pm an (.ref c) ct ∧ K.lookup f = some ⟨oc, od, .func fd, osl⟩
  cd : PySem.W.codeIn K (.ref c) qual = true
  file : ∃ (ccl : Value) (cdd : Option Addr) (vs : Array Value) (ccs : Array (Option Value)) (fl : Str) (tf : Tok), K.lookup c = some ⟨ccl, cdd, .fields vs, ccs⟩ ∧ vs[2]? = some (.str fl tf) ∧ ((P.main.file : Str) == fl) = true
  cell : ∃ (cl : Value) (cld : Option Addr) (csl : Array (Option Value)), K.lookup cc = some ⟨cl, cld, .cell (some (.ref D)), csl⟩
  kp : PySem.W.keepIn K (.ref f) = true
def nf (x qual : Str) (st : Stmt) (c cc : Addr) : NF := ⟨x, qual, defArgs st, defBody st, defScope st, [("__class__", cc)], c⟩
section
variable {P : Program} {w : World} {K : PySem.W.Frag} {mg : Str → Option Value} {base : Heap} {CX : CXT} {x qual : Str} {st : Stmt} {f c cc D : Addr} {fd : FuncData} {N ps : List Str} {k : Nat} {sp : Sp}
theorem fn_super (F : FunS P K x qual st f fd c cc D) (S : NScope N ps ["__class__"] (defScope st)) (len : ∀ vs H Q E, sp vs H Q E → vs.length = ps.length)
    (hbody : ∀ (A : Around) (outer : List Env) (s : Shared) (H : Hp) (vs : List V) (Q : VK) (E : XK), Room k (A.deeper (envF (nf x qual st c cc) f s.heap.objs.size)) → sp vs H Q E → ∀ s1,
      Inv (ncx CX P w K mg base N (nf x qual st c cc) f A outer s H E) [] (startF N vs [some (.ref D)]) H s1 →
      PySem.wpAt (model P w) (A.deeper (envF (nf x qual st c cc) f s.heap.objs.size)) (.func (defBody st) (envF (nf x qual st c cc) f s.heap.objs.size)) (execs (defBody st) (envF (nf x qual st c cc) f s.heap.objs.size))
        (SP (ncx CX P w K mg base N (nf x qual st c cc) f A outer s H E) [] { nx := fun _ H' => Q .non H', rt := Q }) (ncx CX P w K mg base N (nf x qual st c cc) f A outer s H E).xe s1) :
    FnOk P w K mg base CX (k + 1) f fd ps sp := by
  obtain ⟨oc, od, kV, doc, pm, an, ct, osl, rfl, lk⟩ := F.ex
  obtain ⟨cl, cld, csl, lc⟩ := F.cell
  refine ⟨len, fun A outer s H args us vs Q E hr e0 hb r hsp => ?_⟩
  have hl := len _ _ _ _ hsp
  have KX : K.In s.heap := e0.mod.kin.keeps fun b o e => (e0.bs b o e).1
  have lim : s.heap.NoLimit := e0.mod.nolimit.keeps fun b o e => (e0.bs b o e).1
  have hcc : s.heap.get? cc = some ⟨cl, cld, .cell (some (.ref D)), csl⟩ := KX _ _ lc
  have C : CellsAt (nf x qual st c cc).cl ["__class__"] [some (V.ref D)] s.heap H := by
    refine ⟨rfl, fun y b e => ?_, fun a b q h1 h2 => ?_, fun i y hy => ?_⟩
    · have e : (if y == "__class__" then some cc else none) = some b := by
        have q : List.lookup y [(("__class__" : Str), cc)] = some b := e
        rw [List.lookup_cons] at q
        cases z : y == ("__class__" : Str) with
        | true => rw [z] at q; rw [if_pos rfl]; exact q
        | false => rw [z] at q; cases q
      split at e
      · cases e
        exact ⟨(e0.bs _ _ (e0.mod.kin _ _ lc)).2, _, _, hcc, rfl⟩
      · cases e
    · have key : ∀ {y : Str} {b : Addr}, List.lookup y [(("__class__" : Str), cc)] = some b → y = "__class__" := fun {y b} q => by
        rw [List.lookup_cons] at q
        cases z : y == ("__class__" : Str) with
        | true => exact eq_of_beq z
        | false => rw [z] at q; cases q
      exact (key h1).trans (key h2).symm
    · match i, hy with
      | 0, hy =>
        have e : (("__class__" : Str)) = y := Option.some.inj hy
        subst e
        refine ⟨cc, by show List.lookup _ [(("__class__" : Str), cc)] = some cc; rw [List.lookup_cons, beq_self_eq_true], fun v hv => ?_⟩
        have e : V.ref D = v := Option.some.inj (Option.some.inj hv)
        subst e
        exact ⟨_, rfl, _, hcc, rfl⟩
  refine ks_codeAny_call_defAt (fd := PySem.W.fnX x qual (defArgs st) (defBody st) (defScope st) [("__class__", cc)] .none kV doc pm an (.ref c) ct) (body := defBody st) (binds := ps.zip us) hr.depth (KX _ _ lk) rfl lim (PySem.W.codeRec_of KX F.cd) rfl hb
    S.nocell (fun ⟨n, _⟩ hy => S.par n (List.of_mem_zip hy).1) (fun h₁ hns kp => ?_) S.co S.gen S.kind
  have I : Inv (ncx CX P w K mg base N (nf x qual st c cc) f A outer s H E) [] (startF N vs [some (.ref D)]) H { s with heap := h₁, toks := s.toks + (ps.zip us).length } := inv_startN S hr.hd e0 hl r C hns kp
  refine ks_wpAt_mono (hbody A outer s H vs Q E (hr.deeper _) hsp _ I) (fun fl s' hs => ?_) fun e s' hs => hs
  have fin : ∀ {σ' : L2.St} {H' : Hp} {v : V} {u : Value}, Inv (ncx CX P w K mg base N (nf x qual st c cc) f A outer s H E) [] σ' H' s' → L2.RelV v u → Q v H' → CE outer P w H s Q u s' :=
    fun {σ' H' v u} J rv q => ⟨v, H', J.os, J.bare, J.base, J.hok, rv, q⟩
  cases fl with
  | ret u =>
    obtain ⟨v, σ', H', J, rv, q⟩ := hs
    exact fin J rv q
  | next =>
    obtain ⟨σ', H', J, q⟩ := hs
    exact fin (v := V.non) (u := Value.none) J rfl q
  | brk =>
    obtain ⟨_, _, _, q⟩ := hs
    exact False.elim q
  | cont =>
    obtain ⟨_, _, _, q⟩ := hs
    exact False.elim q
end
/-! ### super().m(e, ..) as the first statement, m a def of a class above -/
/-- facts of the running def, by the context -/
structure AtS (X : Cx) (body : List Stmt) (f c cc D : Addr) (me : Str) : Prop where
  hk : X.env.scope.kind = .function
  hks : X.env.kindOf "super" = some .globalImplicit
  hkc : X.env.kindOf "__class__" = some .free
  hfu : X.env.func = some f
  hco : X.env.code = .ref c
  cl : X.env.cells.lookup ("__class__" : Str) = some cc
  hkl : X.env.kindOf me = some .local
  fn : ∃ (oc : Value) (od : Option Addr) (fd : FuncData) (osl : Array (Option Value)) (ar : Arg), X.K.lookup f = some ⟨oc, od, .func fd, osl⟩ ∧ (fd.params.posonlyargs ++ fd.params.args).head? = some ar ∧ ar.arg = me
  file : ∃ (ccl : Value) (cdd : Option Addr) (vs : Array Value) (ccs : Array (Option Value)) (fl : Str) (tf : Tok), X.K.lookup c = some ⟨ccl, cdd, .fields vs, ccs⟩ ∧ vs[2]? = some (.str fl tf) ∧ ((X.prog.main.file : Str) == fl) = true
  cell : ∃ (l : Value) (ld : Option Addr) (csl : Array (Option Value)), X.K.lookup cc = some ⟨l, ld, .cell (some (.ref D)), csl⟩
/-- facts of the text -/
structure SupT (prog : Program) (K : PySem.W.Frag) (mg : Str → Option Value) (D : Addr) : Prop where
  top : (prog.main.scope.names.lookup ("super" : Str)).isSome = false
  mg : mg "super" = none
  cls : ∃ cdD, PySem.W.clsIn K D = some cdD
  third : PySem.W.nsIn K cStatics "thirdparty.any" = some none
section
variable {X : Cx} {body : List Stmt} {f c cc D : Addr} {me : Str} {pins : List (Addr × Obj)} {s : Shared} {σ : L2.St} {H : Hp}
/-- super() itself: a new object, kept aside -/
theorem super_base {attr : Str} {whole : Sem Value} {p0 p1 : Pos} {x C : Addr} {ox : Obj} {Q : Value → Shared → Prop} (a : AtS X body f c cc D me) (t : SupT X.prog X.K X.mg D) (I : Inv X pins σ H s)
    (hN : X.N[0]? = some me) (hx : σ[0]? = some (some (.ref x))) (ho : s.heap.get? x = some ox) (hc : ox.cls = .ref C) (hnc : ∀ c, ox.data ≠ .cls c)
    (hsub : PySem.W.mroIn X.K C (.ref D) = some true) (hat : (attr == ("__class__" : Str)) = false)
    (h : ∀ so h', so = s.heap.objs.size → h'.get? so = some (PySem.W.ks_superObj D x C) → (∀ b o, s.heap.get? b = some o → h'.get? b = some o) → Inv X pins σ H { s with heap := h' } → Q (.ref so) { s with heap := h' }) :
    PySem.wpAt (model X.prog X.w) X.A (.func body X.env) (attributeBase (.Call (.Name "super" p0) [] [] p1) attr X.env whole) Q X.xe s := by
  obtain ⟨oc, od, fd, osl, ar, lf, hp, hself⟩ := a.fn
  obtain ⟨ccl, cdd, vs, ccs, fl, tf, lc, hvs, hfile⟩ := a.file
  obtain ⟨l, ld, csl, lcc⟩ := a.cell
  obtain ⟨cdD, hD⟩ := t.cls
  have KX := I.kIn
  obtain ⟨oD, hD1, hD2⟩ : ∃ oD, s.heap.get? D = some oD ∧ oD.data = .cls cdD := by
    unfold PySem.W.clsIn at hD
    split at hD
    · rename_i c d cd' sl ho
      cases hD
      exact ⟨_, KX _ _ ho, rfl⟩
    · cases hD
  obtain ⟨m, hns, hl⟩ := I.loc
  obtain ⟨u, ru, lk⟩ := hl 0 me _ hN hx (.inl a.hkl)
  obtain rfl : u = Value.ref x := ru
  have hm : m me = some (Value.ref x) := by
    rcases lk with ⟨_, e⟩ | ⟨e, _⟩
    · exact e
    · rw [a.hkl] at e
      rcases e with e | e <;> cases e
  refine ks_wpAt_super_base a.hks a.hkc hat a.hfu (KX _ _ lf) rfl hp a.hco (KX _ _ lc) rfl hvs hfile t.top ?_
  obtain ⟨mb, b1, b2⟩ := I.mod.blt
  refine PySem.W.ks_loadName_global a.hk a.hks (Calls.loadGlobal_builtin (by rw [I.ok.glob]; exact I.mod.glob.keeps I.bk) t.mg (by rw [I.ok.blt]; exact b1.keeps I.bk) ((b2 _ (by decide)).trans (by decide +kernel : bootBuiltins "super" = some (.type "super"))) ⟨rfl, ?_⟩)
  refine wpAny_loadName_free a.hk a.hkc a.cl ⟨_, KX _ _ lcc, rfl⟩ ?_
  rw [hself]
  refine wpAny_loadName_local a.hk a.hkl hns hm ?_
  refine ks_wpAny_isType_cls hD1 hD2 ⟨rfl, ?_⟩
  obtain ⟨hh, g, d, tk, os⟩ := s
  exact ks_wpAny_call_super hD1 hD2 ho hc hnc (PySem.W.looks_mroIn KX hsub) fun h' e k => h _ _ rfl e k (I.kept (t' := tk) k)
/-- super().m: the def of the class above, bound; kept aside -/
theorem super_meth {name : Str} {pl : Sem Bool} {x C so f2 : Addr} {ox : Obj} {Q : Value × List Value → Shared → Prop} (I : Inv X pins σ H s) (hso : s.heap.get? so = some (PySem.W.ks_superObj D x C))
    (ho : s.heap.get? x = some ox) (hnc : ∀ c, ox.data ≠ .cls c) (third : PySem.W.nsIn X.K cStatics "thirdparty.any" = some none)
    (hm : PySem.W.ks_superIn X.K C D name = some (some (.ref f2))) (ht : PySem.W.typeIn X.K (.ref f2) = some (.type "function")) (hn : (name == ("__class__" : Str)) = false)
    (h : ∀ q s', q = s.heap.objs.size → s'.heap.get? q = some (PySem.W.methodObj (.ref f2) (.ref x)) → (∀ b o, s.heap.get? b = some o → s'.heap.get? b = some o) → Inv X pins σ H s' → Q (.ref q, []) s') :
    wpAny (model X.prog X.w) X.A (getMethod (.ref so) name pl) Q X.xe s := by
  have KX := I.kIn
  obtain ⟨hh, g, d, tk, os⟩ := s
  cases hc : PySem.W.clsIn X.K C with
  | none => unfold PySem.W.ks_superIn at hm; rw [hc] at hm; cases hm
  | some cd =>
    unfold PySem.W.ks_superIn at hm
    rw [hc] at hm
    have hxC : x ≠ C := by
      rintro rfl
      unfold PySem.W.clsIn at hc
      split at hc
      · rename_i c d cd' sl hoc
        have e := KX _ _ hoc
        rw [ho] at e
        cases e
        exact hnc _ rfl
      · cases hc
    obtain ⟨of, hof, hofc⟩ : ∃ of, hh.get? f2 = some of ∧ of.cls = .type "function" := by
      have ht' : (X.K.lookup f2).map (·.cls) = some (.type "function") := ht
      cases z : X.K.lookup f2 with
      | none => rw [z] at ht'; cases ht'
      | some of => rw [z] at ht'; exact ⟨of, KX _ _ z, Option.some.inj ht'⟩
    refine ks_wpAny_getMethod_super hso (PySem.W.looks_opaque KX third) (l₀ := cd.mro) ?_ rfl KX hm hof hofc hxC hn ?_
    · exact fun A Q E s k q => wpAny_bind ((PySem.W.looks_clsIn KX hc) A _ E s k (wpAny_pure q))
    · have kp : ∀ b o, hh.get? b = some o → (hh.push (PySem.W.methodObj (.ref f2) (.ref x))).get? b = some o := fun b o e => Heap.get?_push_of_some _ e
      exact h _ _ rfl (Heap.get?_push_at rfl rfl) kp (I.kept (t' := tk + 1) kp)
/-- an instance that is tracked: what super() asks of it -/
theorem ins_obj {a C dx : Addr} {fs : List (Str × V)} (I : Inv X pins σ H s) (e : H a = some (.ins C dx fs)) : ∃ ox : Obj, s.heap.get? a = some ox ∧ ox.cls = .ref C ∧ ∀ c, ox.data ≠ .cls c := by
  obtain ⟨d, z, ne, ob, _⟩ := (show ObjOk X.prog X.w H s.heap a (.ins C dx fs) from I.hok a _ e)
  exact ⟨_, ob, rfl, fun c h => by cases h⟩
/-- super().m(e, ..), then the rest -/
theorem super_own {CX : CXT} {k : Nat} {f2 x C : Addr} {fd2 : FuncData} {ps2 : List Str} {sp2 : Sp} {dvs : List V} {ds : List Value} {E : XK} {attr : Str} {e : Expr} {es : List Expr} {t : TA} {rest : List Stmt} {u : TS} {D' : Ends} {p0 p1 p2 p3 p4 : Pos}
    (a : AtS X body f c cc D me) (T : SupT X.prog X.K X.mg D) (F : FnOk X.prog X.w X.K X.mg X.base CX k f2 fd2 ps2 sp2) (hr : Room k X.A) (hb : Binds X.K fd2 ps2 ds) (hd : Vals dvs ds) (hx : Passes CX X E)
    (hN : X.N[0]? = some me) (hm : PySem.W.ks_superIn X.K C D attr = some (some (.ref f2))) (ht : PySem.W.typeIn X.K (.ref f2) = some (.type "function")) (hfn : PySem.W.fnIn X.K f2 = true)
    (hsub : PySem.W.mroIn X.K C (.ref D) = some true) (hat : (attr == ("__class__" : Str)) = false) (ha : PA X (e :: es) t) (hrest : PSs X rest u)
    (I : Inv X pins σ H s) (hσ : σ[0]? = some (some (.ref x))) (hins : ∃ ox : Obj, s.heap.get? x = some ox ∧ ox.cls = .ref C ∧ ∀ c, ox.data ≠ .cls c)
    (hq : t σ H fun vs H1 => sp2 (.ref x :: (vs ++ dvs)) H1 (fun _ H2 => u D' σ H2) E)
    (hi : interactive X.env = false) (hs : swapsWith (.Call (.Attribute (.Call (.Name "super" p0) [] [] p1) attr p2) (e :: es) [] p3) none p4.line X.env = pure false)
    (he : eval (.Call (.Attribute (.Call (.Name "super" p0) [] [] p1) attr p2) (e :: es) [] p3) X.env = (do
      let ov ← attributeBase (.Call (.Name "super" p0) [] [] p1) attr X.env (eval (.Call (.Name "super" p0) [] [] p1) X.env)
      standAt p2.atName
      let (f, first) ← holding [ov] (getMethod ov attr (pure false))
      callWith p3 f first (backTo p3 (starEach (e :: es) X.env)) []))
    (hst : starEach (e :: es) X.env = (false, eval e X.env) :: starEach es X.env) (hpl : (backTo p3 (starEach es X.env)).any (·.1) = false) :
    PySem.wpAt (model X.prog X.w) X.A (.func body X.env) (execs (.Expr (.Call (.Attribute (.Call (.Name "super" p0) [] [] p1) attr p2) (e :: es) [] p3) p4 :: rest) X.env) (SP X pins D') X.xe s := by
  obtain ⟨ox, ho, hc, hnc⟩ := hins
  refine ks_wpAt_execs_cons (ks_wpAt_Expr_any (ks_wpAt_MethodCall (pl := pure false) (super_base a T I hN hσ ho hc hnc hsub hat fun so h' eso hso kp I1 => ?_) he) hi hs)
  refine super_meth (x := x) (C := C) (D := D) I1 hso (kp _ _ ho) hnc T.third hm ht hat fun q s2 eq hq2 kp2 I2 => ?_
  have hqn : H q = none := by rw [eq]; exact I1.hok.fresh (Nat.le_refl _)
  have hq0 : X.s_0.heap.objs.size ≤ q := by rw [eq]; exact I1.sz
  have hqL : q ≠ X.env.locals := by rw [eq]; exact (Nat.ne_of_lt I1.lt).symm
  have hqf : q ∉ X.fs := by rw [eq]; exact I1.nofs (Nat.le_refl _)
  have J : Inv X (pins ++ [(q, PySem.W.methodObj (.ref f2) (.ref x))]) σ H s2 := I2.pins_of fun p hp => by
    rcases List.mem_append.mp hp with hp | hp
    · exact I2.pin p (List.mem_append_right _ hp)
    · obtain rfl := List.mem_singleton.mp hp
      exact ⟨hq2, hqn, hqL, hqf, fun v hv => by cases hv⟩
  refine PySem.W.callWith_M (h₀ := X.base) (L := X.env.locals) (news := [(q, PySem.W.methodObj (.ref f2) (.ref x))]) I.ok.mod.kin ?_ (List.mem_singleton.mpr rfl) hfn ?_ hst hpl
  · intro p hp
    obtain rfl := List.mem_singleton.mp hp
    exact ⟨hq2, hqL, Heap.get?_none_of_le (Nat.le_trans I.ok.bsz hq0)⟩
  refine thn (ha.run p3 _ s2 σ H _ J hq) fun us s3 ⟨vs, H3, I3, r, q3⟩ => ?_
  have hq3 : s3.heap.get? q = some (PySem.W.methodObj (.ref f2) (.ref x)) := (I3.pin _ (List.mem_append_right _ (List.mem_append_right _ (List.mem_singleton.mpr rfl)))).1
  refine ⟨⟨hq3, I3.kIn⟩, ?_⟩
  refine wpAny_call (PySem.W.method_call hq3 ?_)
  have r2 : Vals (V.ref x :: (vs ++ dvs)) (Value.ref x :: (us ++ ds)) := .cons rfl (r.append hd)
  have hl : (Value.ref x :: (us ++ ds)).length = ps2.length := by rw [← r2.length]; exact F.len _ _ _ _ q3
  have I4 : Inv X pins σ H3 s3 := I3.pins_of fun p hp => I3.pin p (List.mem_append_right _ (List.mem_append_left _ hp))
  refine codeAny_mono (F.run X.A X.stack s3 H3 ⟨.ref x :: us, []⟩ (.ref x :: (us ++ ds)) (.ref x :: (vs ++ dvs)) _ E hr I3.env0 (hb s3 (.ref x :: us) I3.kIn hl) r2 q3) fun r s' hq' => ?_
  cases r with
  | error e => exact hx pins σ H3 s3 e s' I4 hq'
  | ok fl =>
    cases fl with
    | ret v =>
      obtain ⟨v', H', I5, _, q5⟩ := I4.after hq'
      exact wpAt_of_wpAny (hrest.run pins s' σ H' D' I5 q5)
    | next => exact False.elim hq'
    | brk => exact False.elim hq'
    | cont => exact False.elim hq'
end
end Sup
namespace Sup
open PySem PySem.Spec PyProof.Rows L2
open NdefX (NF NScope ncx envF startF CellsAt inv_startN)
section
variable {X : Cx} {body : List Stmt} {f c cc D : Addr} {me : Str} {pins : List (Addr × Obj)} {s : Shared} {σ : L2.St} {H : Hp}
/-- an exception that is being made: what super() asks of it -/
theorem exo_obj {a C : Addr} {d : Option Addr} (I : Inv X pins σ H s) (e : H a = some (exo a C d)) : ∃ ox : Obj, s.heap.get? a = some ox ∧ ox.cls = .ref C ∧ ∀ c, ox.data ≠ .cls c := by
  obtain ⟨t1, ho⟩ := exo_at I.hok e
  exact ⟨_, ho, rfl, fun c h => by cases h⟩
/-- super().__init__, ValueError's, bound; kept aside -/
theorem super_methX {pl : Sem Bool} {x C so : Addr} {Q : Value × List Value → Shared → Prop} (I : Inv X pins σ H s) (hso : s.heap.get? so = some (PySem.W.ks_superObj D x C))
    (hx : H x = some (exo x C none)) (third : PySem.W.nsIn X.K cStatics "thirdparty.any" = some none)
    (hm : PySem.W.ks_superIn X.K C D "__init__" = some (some (.builtin "ValueError.__init__"))) (hB : PySem.W.subIn X.K (.ref C) (.type "ValueError") = some true)
    (h : ∀ q s', q = s.heap.objs.size → s'.heap.get? q = some (PySem.W.kxs_mw "ValueError.__init__" x) → Inv X pins σ H s' → Q (.ref q, []) s') :
    wpAny (model X.prog X.w) X.A (getMethod (.ref so) "__init__" pl) Q X.xe s := by
  have KX := I.kIn
  obtain ⟨t1, ho⟩ := exo_at I.hok hx
  have hI : PySem.W.Looks (model X.prog X.w) s.heap (isInstance (.ref x) (.type "ValueError")) true :=
    (PySem.W.InstAt.type (ox := { cls := .ref C, dict := none, data := .fields #[.ref t1, .none, .none, .none, .bool false, .none] }) (od := none) ⟨ho, rfl, rfl, trivial⟩).andThen (PySem.W.looks_subIn KX hB)
  obtain ⟨hh, g, d, tk, os⟩ := s
  cases hc : PySem.W.clsIn X.K C with
  | none => unfold PySem.W.ks_superIn at hm; rw [hc] at hm; cases hm
  | some cd =>
    unfold PySem.W.ks_superIn at hm
    rw [hc] at hm
    have hxC : x ≠ C := by
      rintro rfl
      unfold PySem.W.clsIn at hc
      split at hc
      · rename_i c d cd' sl hoc
        have e := KX _ _ hoc
        rw [ho] at e
        cases e
      · cases hc
    refine PySem.W.kxs_getMethod PySem.W.kxs_ValueError hso (PySem.W.looks_opaque KX third) (l₀ := cd.mro) ?_ rfl KX hm hI hxC (by decide) ?_
    · exact fun A Q E s k q => wpAny_bind ((PySem.W.looks_clsIn KX hc) A _ E s k (wpAny_pure q))
    · have kp : ∀ b o, hh.get? b = some o → (hh.push (PySem.W.kxs_mw "ValueError.__init__" x)).get? b = some o := fun b o e => Heap.get?_push_of_some _ e
      exact h _ _ rfl (Heap.get?_push_at rfl rfl) (I.kept (t' := tk + 1) kp)
/-- it is called: nothing of it is told -/
theorem call_mw {u a C : Addr} {us : List Value} {Q : Value → Shared → Prop} (T : OexC X.K C) (I : Inv X pins σ H s) (hu : s.heap.get? u = some (PySem.W.kxs_mw "ValueError.__init__" a)) (e : H a = some (exo a C none)) (hl : us.length ≤ sizeLine)
    (h : ∀ s', Inv X pins σ H s' → Q .none s') : wpAny (model X.prog X.w) X.A (call (.ref u) us) Q X.xe s := by
  obtain ⟨nm, q, N, bs, bm, sn, sub, ab, col, dd, k0, k1, k2, k3, k5, hC, hbm⟩ := T.cls
  obtain ⟨t1, ho⟩ := exo_at I.hok e
  have hCs := I.kIn _ _ hC
  obtain ⟨hh, g, d, tk, os⟩ := s
  refine wpAny_call (codeAny_of_tree ?_)
  show wpAny _ X.A.in1 (callAny (.ref u) ⟨us, []⟩) _ _ _
  simp only [callAny]
  refine wpAny_bind (wpAny_load hu ?_)
  simp only [PySem.W.kxs_mw, show (Value.type "method-wrapper" == Value.type "method" || Value.type "method-wrapper" == Value.type "builtin_function_or_method" || Value.type "method-wrapper" == Value.type "method-wrapper") = true by decide, if_true]
  refine PySem.W.KFB.if_so (by decide) ?_
  refine wpAny_bind (PySem.W.check_bound_init F.excBase_ValueError.toExcCallFacts hCs ho rfl ?_)
  refine wpAny_bind (wpAny_pure (wpAny_pure ?_))
  refine ⟨plainId_quiet F.excBase_ValueError.init.plain _, codeAny_builtin F.excBase_ValueError.initEntry ?_⟩
  refine PySem.W.exc_init_tree (cls := .ref C) (t0 := t1) (dv := none) (c2 := .none) (c3 := .none) (b4 := .bool false) ho hl fun h' k e' t' => ?_
  have J := I.write (t' := tk) (x := a) (e := a) (o := exo a C none) (by rw [e]; exact True.intro) (.inl rfl) k ⟨_, e'⟩ (exo_ok e')
  have eu : upd H a (exo a C none) = H := by
    funext b
    by_cases hb : b = a
    · rw [hb, upd_same, e]
    · rw [upd_ne hb]
  rw [eu] at J
  exact h _ J
end
end Sup
namespace Sup
open PySem PySem.Spec PyProof.Rows L2
open NdefX (NF NScope ncx envF startF CellsAt inv_startN)
section
variable {X : Cx} {body : List Stmt} {f c cc D : Addr} {me : Str} {pins : List (Addr × Obj)} {s : Shared} {σ : L2.St} {H : Hp}
/-- super().__init__(e, ..) of an exception, then the rest -/
theorem super_exc {x C : Addr} {e : Expr} {es : List Expr} {t : TA} {rest : List Stmt} {u : TS} {D' : Ends} {p0 p1 p2 p3 p4 : Pos}
    (a : AtS X body f c cc D me) (T : SupT X.prog X.K X.mg D) (TC : OexC X.K C)
    (hN : X.N[0]? = some me) (hm : PySem.W.ks_superIn X.K C D "__init__" = some (some (.builtin "ValueError.__init__"))) (hB : PySem.W.subIn X.K (.ref C) (.type "ValueError") = some true)
    (hsub : PySem.W.mroIn X.K C (.ref D) = some true) (ha : PA X (e :: es) t) (hrest : PSs X rest u)
    (I : Inv X pins σ H s) (hσ : σ[0]? = some (some (.ref x))) (hx : H x = some (exo x C none))
    (hq : t σ H fun vs H1 => vs.length ≤ 1000 ∧ H1 x = some (exo x C none) ∧ u D' σ H1)
    (hi : interactive X.env = false) (hs : swapsWith (.Call (.Attribute (.Call (.Name "super" p0) [] [] p1) "__init__" p2) (e :: es) [] p3) none p4.line X.env = pure false)
    (he : eval (.Call (.Attribute (.Call (.Name "super" p0) [] [] p1) "__init__" p2) (e :: es) [] p3) X.env = (do
      let ov ← attributeBase (.Call (.Name "super" p0) [] [] p1) "__init__" X.env (eval (.Call (.Name "super" p0) [] [] p1) X.env)
      standAt p2.atName
      let (f, first) ← holding [ov] (getMethod ov "__init__" (pure false))
      callWith p3 f first (backTo p3 (starEach (e :: es) X.env)) []))
    (hst : starEach (e :: es) X.env = (false, eval e X.env) :: starEach es X.env) (hpl : (backTo p3 (starEach es X.env)).any (·.1) = false) :
    PySem.wpAt (model X.prog X.w) X.A (.func body X.env) (execs (.Expr (.Call (.Attribute (.Call (.Name "super" p0) [] [] p1) "__init__" p2) (e :: es) [] p3) p4 :: rest) X.env) (SP X pins D') X.xe s := by
  obtain ⟨ox, ho, hc, hnc⟩ := exo_obj I hx
  refine ks_wpAt_execs_cons (ks_wpAt_Expr_any (ks_wpAt_MethodCall (pl := pure false) (super_base a T I hN hσ ho hc hnc hsub (by decide) fun so h' eso hso kp I1 => ?_) he) hi hs)
  refine super_methX (x := x) (C := C) (D := D) I1 hso hx T.third hm hB fun q s2 eq hq2 I2 => ?_
  have hqn : H q = none := by rw [eq]; exact I1.hok.fresh (Nat.le_refl _)
  have hq0 : X.s_0.heap.objs.size ≤ q := by rw [eq]; exact I1.sz
  have hqL : q ≠ X.env.locals := by rw [eq]; exact (Nat.ne_of_lt I1.lt).symm
  have hqf : q ∉ X.fs := by rw [eq]; exact I1.nofs (Nat.le_refl _)
  have J : Inv X (pins ++ [(q, PySem.W.kxs_mw "ValueError.__init__" x)]) σ H s2 := I2.pins_of fun p hp => by
    rcases List.mem_append.mp hp with hp | hp
    · exact I2.pin p (List.mem_append_right _ hp)
    · obtain rfl := List.mem_singleton.mp hp
      exact ⟨hq2, hqn, hqL, hqf, fun v hv => by cases hv⟩
  refine PySem.W.kxs_callWith1 (h₀ := X.base) (L := X.env.locals) (news := [(q, PySem.W.kxs_mw "ValueError.__init__" x)]) (i := "ValueError.__init__") (x := x) ?_ (List.mem_singleton.mpr rfl) ?_ hst hpl
  · intro p hp
    obtain rfl := List.mem_singleton.mp hp
    exact ⟨hq2, hqL, Heap.get?_none_of_le (Nat.le_trans I.ok.bsz hq0)⟩
  refine thn (ha.run p3 _ s2 σ H _ J hq) fun us s3 ⟨vs, H3, I3, r, hl, hx3, q3⟩ => ?_
  have hq3 : s3.heap.get? q = some (PySem.W.kxs_mw "ValueError.__init__" x) := (I3.pin _ (List.mem_append_right _ (List.mem_append_right _ (List.mem_singleton.mpr rfl)))).1
  have I4 : Inv X pins σ H3 s3 := I3.pins_of fun p hp => I3.pin p (List.mem_append_right _ (List.mem_append_left _ hp))
  refine ⟨hq3, ?_⟩
  exact call_mw TC I4 hq3 hx3 (by rw [← r.length]; exact Nat.le_trans hl (by decide)) fun s' I5 => wpAt_of_wpAny (hrest.run pins s' σ H3 D' I5 q3)
end
theorem atS_of {P : Program} {w : World} {K : PySem.W.Frag} {mg : Str → Option Value} {base : Heap} {CX : CXT} {x qual : Str} {st : Stmt} {f c cc D : Addr} {fd : FuncData} {N : List Str} {A : Around} {outer : List Env} {s : Shared} {H : Hp} {E : XK} {me : Str} {body : List Stmt}
    (F : FunS P K x qual st f fd c cc D) (hk : (defScope st).kind = .function) (hs : (defScope st).names.lookup ("super" : Str) = some .globalImplicit) (hc : (defScope st).names.lookup ("__class__" : Str) = some .free)
    (hm : (defScope st).names.lookup me = some .local) (ha : ∃ ar, ((defArgs st).posonlyargs ++ (defArgs st).args).head? = some ar ∧ ar.arg = me) : AtS (ncx CX P w K mg base N (nf x qual st c cc) f A outer s H E) body f c cc D me := by
  obtain ⟨oc, od, kV, doc, pm, an, ct, osl, rfl, lk⟩ := F.ex
  obtain ⟨ar, h1, h2⟩ := ha
  refine ⟨hk, hs, hc, rfl, rfl, ?_, hm, ⟨oc, od, _, osl, ar, lk, h1, h2⟩, F.file, F.cell⟩
  show List.lookup _ [(("__class__" : Str), cc)] = some cc
  rw [List.lookup_cons, beq_self_eq_true]
end Sup
namespace Sj
open PySem L2
open C8 (pss_cut tCut)
def top (i : Nat) : Stmt := PySem.Challenge.pw_strayjoins_k10_boards_refused.main.body.getD i (.Pass ⟨0, 0, 0, 0⟩)
abbrev sPen : Stmt := top 29
abbrev sDraw : Stmt := top 30
abbrev sPick : Stmt := top 31
/-! ### the pen: its cells, the next place, what is left of a great one -/
def penO (l : Addr) (i g : Int) : HO := .lst [.ref l, .int i, .int g]
def Pen (H : Hp) (p l : Addr) (cs : List Int) (n : Nat) : Prop :=
  ∃ i g : Int, H p = some (penO l i g) ∧ H l = some (.lst (cs.map V.int)) ∧ cs.length ≤ 63 ∧ 0 ≤ i ∧ i ≤ n
/-- all that stood but at p stands as it was -/
def But (H H' : Hp) (p : Addr) : Prop := ∀ b o, b ≠ p → H b = some o → H' b = some o
theorem But.upd (H : Hp) (p : Addr) (o : HO) : But H (upd H p o) p := fun b _ h e => by rw [upd_ne h]; exact e
theorem But.trans {H H1 H2 : Hp} {p : Addr} (a : But H H1 p) (b : But H1 H2 p) : But H H2 p := fun c o h e => b c o h (a c o h e)
theorem But.put {H H1 : Hp} {p : Addr} (a : But H H1 p) (o : HO) : But H (L2.upd H1 p o) p := a.trans (.upd _ _ _)
theorem But.new {H H1 : Hp} {p q : Addr} (a : But H H1 p) (hq : H1 q = none) (o : HO) : But H (L2.upd H1 q o) p := fun b _ h e => by
  have e1 := a b _ h e
  rw [upd_ne (ne_of_none e1 hq)]
  exact e1
def spDraw : Sp := fun vs H Q _ => ∃ (p l : Addr) (cs : List Int) (n : Nat) (m : Int), vs = [.ref p, .int m] ∧ Pen H p l cs n ∧ 0 < m ∧ m < 1073741824 ∧ n < 1000000 ∧
  ∀ (d i g : Int) (H' : Hp), 0 ≤ d → d < m → 0 ≤ i → i ≤ n + 1 → H' p = some (penO l i g) → But H H' p → Q (.int d) H'
structure Bi (mg : Str → Option Value) : Prop where
  int : mg "int" = none
  len : mg "len" = none
  abs : mg "abs" = none
theorem dp_ints {K : PySem.W.Frag} {H : Hp} : ∀ cs : List Int, DpAll K H (cs.map V.int) (cs.map PyData.int)
  | [] => .nil
  | c :: cs => .cons (.int c) (dp_ints cs)
theorem shaped_ints (cs : List Int) : SeqAt.shaped (.list (cs.map PyData.int)) = true := by
  unfold SeqAt.shaped
  rw [Bool.and_eq_true]
  refine ⟨?_, decide_eq_true ?_⟩
  · show PyData.canLayAll0 (cs.map PyData.int) = true
    induction cs with
    | nil => rfl
    | cons c cs ih => exact Bool.and_eq_true_iff.mpr ⟨rfl, ih⟩
  · have e : PyData.depthAll (cs.map PyData.int) ≤ 1 := by
      induction cs with
      | nil => exact Nat.zero_le _
      | cons c cs ih => exact Nat.max_le.mpr ⟨(show (0 : Nat) ≤ 1 by decide), ih⟩
    show PyData.depthAll (cs.map PyData.int) + 1 ≤ 64
    omega
theorem small1 {b c i m : Int} {n : Nat} {x : Int} (i0 : 0 ≤ i) (i1 : i ≤ n) (n1 : n < 1000000) (hm : 0 < m ∧ m < 4294967296 := by decide) (hb : 0 ≤ b ∧ b < 100000 := by decide) (hc : 0 ≤ c ∧ c < 100000 := by decide) :
    (x % m + b * i + c).natAbs < 2 ^ 64 := by
  have h1 := Int.emod_nonneg x (show m ≠ 0 by omega)
  have h2 := Int.emod_lt_of_pos x hm.1
  have h3 : 0 ≤ b * i := Int.mul_nonneg hb.1 i0
  have h4 : b * i ≤ 100000 * 1000000 := Int.mul_le_mul (by omega) (by omega) i0 (by decide)
  have h5 : (2 : Nat) ^ 64 = 18446744073709551616 := by decide
  omega
theorem small3 {b i : Int} (i0 : 0 ≤ i) (hb : 0 ≤ b ∧ b < 100000 := by decide) : -(2 ^ 64) < b * i := by
  have h3 : 0 ≤ b * i := Int.mul_nonneg hb.1 i0
  have h5 : (2 : Int) ^ 64 = 18446744073709551616 := by decide
  omega
theorem small4 {b i : Int} {n : Nat} (i1 : i ≤ n) (n1 : n < 1000000) (hb : 0 ≤ b ∧ b < 100000 := by decide) : b * i < 2 ^ 64 := by
  have h4 : b * i ≤ b * 1000000 := Int.mul_le_mul_of_nonneg_left (by omega) hb.1
  have h5 : (2 : Int) ^ 64 = 18446744073709551616 := by decide
  omega
theorem small2 {a b c e i y : Int} {n : Nat} (i0 : 0 ≤ i) (i1 : i ≤ n) (n1 : n < 1000000) (y0 : 0 ≤ y) (y1 : y < 2147483648) (ha : 0 ≤ a ∧ a < 10 := by decide) (hb : 0 ≤ b ∧ b < 100000 := by decide)
    (hc : 0 ≤ c ∧ c < 100000 := by decide) (he : 0 ≤ e ∧ e < 100000 := by decide) : (y * (a * i + b) + c * i * i + e).natAbs < 2 ^ 64 := by
  have h3 : 0 ≤ a * i := Int.mul_nonneg ha.1 i0
  have h4 : a * i ≤ 10 * 1000000 := Int.mul_le_mul (by omega) (by omega) i0 (by decide)
  have h6 : 0 ≤ y * (a * i + b) := Int.mul_nonneg y0 (by omega)
  have h7 : y * (a * i + b) ≤ 2147483648 * 20000000 := Int.mul_le_mul (by omega) (by omega) (by omega) (by decide)
  have h8 : 0 ≤ c * i := Int.mul_nonneg hc.1 i0
  have h9 : c * i ≤ 100000 * 1000000 := Int.mul_le_mul (by omega) (by omega) i0 (by decide)
  have h10 : 0 ≤ c * i * i := Int.mul_nonneg h8 i0
  have h11 : c * i * i ≤ (100000 * 1000000) * 1000000 := Int.mul_le_mul h9 (by omega) i0 (by decide)
  have h5 : (2 : Nat) ^ 64 = 18446744073709551616 := by decide
  omega
theorem cut_ints (ns : List Int) (a b : Option Int) : ∃ cs : List Int, cutV (ns.map V.int) a b = cs.map V.int ∧ cs.length ≤ ns.length := by
  unfold cutV
  rw [← List.map_drop, ← List.map_take]
  exact ⟨_, rfl, by rw [List.length_take, List.length_drop]; omega⟩
theorem cell_at {cs : List Int} {i : Int} (h0 : 0 ≤ i) (hn : cs ≠ []) : ∃ v : Int, atI (cs.map V.int) (i % ((cs.map V.int).length : Nat)) = some (.int v) := by
  have hl : 0 < cs.length := List.length_pos_iff.mpr hn
  have e : (cs.map V.int).length = cs.length := List.length_map _
  have hb := Int.emod_lt_of_pos i (show (0 : Int) < (cs.length : Int) by omega)
  have hp := Int.emod_nonneg i (show (cs.length : Int) ≠ 0 by omega)
  obtain ⟨j, hj⟩ : ∃ j : Nat, i % (cs.length : Int) = (j : Int) := ⟨(i % (cs.length : Int)).toNat, by omega⟩
  have hjl : j < cs.length := by omega
  refine ⟨cs[j], ?_⟩
  rw [e, hj]
  exact atI_nat (by simp [hjl])
section
variable {P : Program} {w : World} {K : PySem.W.Frag} {mg : Str → Option Value} {base : Heap}
theorem scDraw : FnScope ["_law_pen_here", "_law_many", "_law_digit", "_law_at", "_law_cell", "_law_great", "_law_mixed"] ["_law_pen_here", "_law_many"] (defScope sDraw) :=
  ⟨rfl, rfl, rfl, by decide +kernel, rfl, by decide +kernel, by decide +kernel⟩
theorem ok_draw {f : Addr} {fd : FuncData} (F : Fun K "_law_draw" "_law_draw" sDraw f fd) (B : Bi mg) : FnOk P w K mg base CX0 1 f fd ["_law_pen_here", "_law_many"] spDraw := by
  refine F.ok scDraw (fun vs H Q E h => ?_) (fun cdv A outer s H vs Q E hr h => ?_)
  · obtain ⟨p, l, cs, n, m, rfl, _⟩ := h
    rfl
  · obtain ⟨p, l, cs, n, m, rfl, ⟨i, g, hp, hl, hz, i0, i1⟩, m0, m1, n1, k⟩ := h
    have npl : p ≠ l := fun q => by
      subst q
      rw [hp] at hl
      have e := List.map_eq_cons_iff.mp (HO.lst.inj (Option.some.inj hl)).symm
      obtain ⟨_, _, _, h1, _⟩ := e
      cases h1
    refine ⟨_, pss_cut
        (ps_if (pt_cmpR op_gt (pe_ix ix_list (pv 0) pe_int (fun _ _ => rfl)) pe_int (nomark _))
          (pss_cons (ps_set (i := 2) scDraw.nd rfl (Or.inl rfl) (pe_op op_mod (pe_callTy call_int1 (by rfl) B.int (by decide +kernel) (pa_cons (pe_ix ix_list (pv 0) pe_int (fun _ _ => rfl)) pa_nil)) (pv 1)))
          (pss_cons (ps_asg (pe_op op_fdiv (pe_callTy call_int1 (by rfl) B.int (by decide +kernel) (pa_cons (pe_ix ix_list (pv 0) pe_int (fun _ _ => rfl)) pa_nil)) (pv 1)) (pg_sub (pv 0) pe_int set_list))
          (pss_one (ps_ret (pv 2)))))
          pss_nil)
      (pss_cons (ps_set (i := 3) scDraw.nd rfl (Or.inl rfl) (pe_ix ix_list (pv 0) pe_int (fun _ _ => rfl)))
      (pss_cons (ps_asg (pe_op op_add (pv 3) pe_int) (pg_sub (pv 0) pe_int set_list))
      (pss_cons (ps_set (i := 4) scDraw.nd rfl (Or.inl rfl) (pe_op op_add (pe_op op_mul pe_int (pv 3)) pe_int))
      (pss_cut (ps_if (pt_cmpR (op_neD hr.units) (pe_ix ix_list (pv 0) pe_int (fun _ _ => rfl)) (pe_lst pa_nil) (nomark _))
          (pss_one (ps_set (i := 4) scDraw.nd rfl (Or.inl rfl) (pe_ix ix_list (pe_ix ix_list (pv 0) pe_int (fun _ _ => rfl))
            (pe_op op_mod (pe_callTy call_int1 (by rfl) B.int (by decide +kernel) (pa_cons (pv 3) pa_nil)) (pe_callB call_len_seq (by rfl) B.len PySem.boot_len (pa_cons (pe_ix ix_list (pv 0) pe_int (fun _ _ => rfl)) pa_nil))) (fun _ _ => rfl))))
          pss_nil)
      (pss_cut (ps_if (PW.pt (pw_and (pt_cmpR op_lt (pv 3) (pe_callB call_len_seq (by rfl) B.len PySem.boot_len (pa_cons (pe_ix ix_list (pv 0) pe_int (fun _ _ => rfl)) pa_nil)) (nomark _))
            (pw_and1 (pt_cmpR op_ge (pe_callB call_abs (by rfl) B.abs (by decide +kernel) (pa_cons (pv 4) pa_nil)) (pe_op op_pow pe_int pe_int) (nomark _)))))
          (pss_cons (ps_set (i := 5) scDraw.nd rfl (Or.inl rfl) (pe_op op_add (pe_op op_mul pe_int (pe_callB call_abs (by rfl) B.abs (by decide +kernel) (pa_cons (pv 4) pa_nil)))
              (pe_callTy call_int1 (by rfl) B.int (by decide +kernel) (pa_cons (pe_cmpR op_lt (pv 4) pe_int (nomark _)) pa_nil))))
          (pss_cons (ps_asg (pe_op op_fdiv (pe_callTy call_int1 (by rfl) B.int (by decide +kernel) (pa_cons (pv 5) pa_nil)) (pv 1)) (pg_sub (pv 0) pe_int set_list))
          (pss_one (ps_ret (pe_op op_mod (pe_callTy call_int1 (by rfl) B.int (by decide +kernel) (pa_cons (pv 5) pa_nil)) (pv 1))))))
          pss_nil)
      (pss_cut (ps_set (i := 6) scDraw.nd rfl (Or.inl rfl) (pe_op op_mod (pe_op op_pow (pe_callTy call_int1 (by rfl) B.int (by decide +kernel) (pa_cons
          (pe_op op_add (pe_op op_add (pe_op op_mod (pe_callTy call_int1 (by rfl) B.int (by decide +kernel) (pa_cons (pv 4) pa_nil)) pe_int) (pe_op op_mul pe_int (pv 3))) pe_int) pa_nil)) pe_int) pe_int))
      (pss_cut (ps_set (i := 6) scDraw.nd rfl (Or.inl rfl) (pe_op op_mod (pe_op op_pow (pe_callTy call_int1 (by rfl) B.int (by decide +kernel) (pa_cons
          (pe_op op_add (pe_op op_add (pe_op op_mul (pv 6) (pe_op op_add (pe_op op_mul pe_int (pv 3)) pe_int)) (pe_op op_mul (pe_op op_mul pe_int (pv 3)) (pv 3))) pe_int) pa_nil)) pe_int) pe_int))
      (pss_one (ps_ret (pe_op op_mod (pe_callTy call_int1 (by rfl) B.int (by decide +kernel) (pa_cons (pe_op op_fdiv (pv 6) pe_int) pa_nil)) (pv 1))))))))))), ?_⟩
    refine ⟨fun σ' H' => σ' = start ["_law_pen_here", "_law_many", "_law_digit", "_law_at", "_law_cell", "_law_great", "_law_mixed"] [.ref p, .int m] ∧ H' = H,
      ⟨_, rfl, p, _, _, .int g, rfl, rfl, SqL.of hp, rfl, _, _, rfl, rfl, _, rfl, ite2 (fun _ => ?_) (fun _ => ⟨rfl, rfl⟩)⟩, ?_⟩
    · refine ⟨_, rfl, p, _, _, .int g, rfl, rfl, SqL.of hp, rfl, .inl ⟨_, rfl, _, rfl, _, _, rfl, rfl, m0, ?_⟩⟩
      refine ⟨_, rfl, p, _, _, .int g, rfl, rfl, SqL.of hp, rfl, .inl ⟨_, rfl, _, rfl, _, _, rfl, rfl, ⟨m0, m1⟩, ?_⟩⟩
      refine ⟨_, rfl, p, _, _, 2, rfl, rfl, hp, rfl, ?_⟩
      refine ⟨_, rfl, ?_⟩
      exact k _ _ _ _ (Int.emod_nonneg _ (by omega)) (Int.emod_lt_of_pos _ m0) i0 (by omega) upd_same (.upd _ _ _)
    · rintro σ' H' ⟨rfl, rfl⟩
      refine ⟨_, rfl, p, _, _, .int i, rfl, rfl, SqL.of hp, rfl, ?_⟩
      refine ⟨_, rfl, _, _, rfl, rfl, _, rfl, p, _, _, 1, rfl, rfl, hp, rfl, ?_⟩
      have b1 : But H' (upd H' p (penO l (i + 1) g)) p := .upd _ _ _
      have hp1 : upd H' p (penO l (i + 1) g) p = some (penO l (i + 1) g) := upd_same
      have hl1 : upd H' p (penO l (i + 1) g) l = some (.lst (cs.map V.int)) := b1 _ _ npl.symm hl
      refine ⟨_, rfl, _, _, rfl, rfl, .inl ⟨by decide, by decide⟩, _, _, rfl, rfl, ?_⟩
      refine ⟨fun σ2 H2 => ∃ c : Int, σ2 = [some (.ref p), some (.int m), none, some (.int i), some (.int c), none, none] ∧ H2 p = some (penO l (i + 1) g) ∧ H2 l = some (.lst (cs.map V.int)) ∧ But H' H2 p, ?_, ?_⟩
      · refine ⟨_, rfl, p, _, _, .ref l, rfl, rfl, SqL.of hp1, rfl, Nat.zero_le _, fun q hq => ?_⟩
        have npq : p ≠ q := ne_of_none hp1 hq
        have nlq : l ≠ q := ne_of_none hl1 hq
        have hp2 : upd (upd H' p (penO l (i + 1) g)) q (.lst []) p = some (penO l (i + 1) g) := by rw [upd_ne npq]; exact hp1
        have hl2 : upd (upd H' p (penO l (i + 1) g)) q (.lst []) l = some (.lst (cs.map V.int)) := by rw [upd_ne nlq]; exact hl1
        have b2 := b1.new hq (.lst [])
        refine ⟨.list (cs.map PyData.int), .list [], .lst (SqL.of hl2) (dp_ints cs), .lst (SqL.of upd_same) .nil, shaped_ints cs, rfl, _, rfl, ?_⟩
        cases cs with
        | nil => exact ⟨_, rfl, hp2, hl2, b2⟩
        | cons c cs =>
          refine iteT ?_
          obtain ⟨v, hv⟩ := cell_at (cs := c :: cs) i0 (by simp)
          refine ⟨_, rfl, p, _, _, .ref l, rfl, rfl, SqL.of hp2, rfl, _, rfl, .inl ⟨_, rfl, _, rfl, p, _, _, .ref l, rfl, rfl, SqL.of hp2, rfl, l, _, rfl, .inl (SqL.of hl2), _, _, rfl, rfl, ?_, ?_⟩⟩
          · show (0 : Int) < (((c :: cs).map V.int).length : Nat)
            simp
          · exact ⟨l, _, _, .int v, rfl, rfl, SqL.of hl2, hv, v, rfl, hp2, hl2, b2⟩
      · rintro σ2 H2 ⟨c, rfl, hp2, hl2, b2⟩
        have len63 : (cs.map V.int).length = cs.length := List.length_map _
        refine ⟨fun σ3 H3 => σ3 = [some (.ref p), some (.int m), none, some (.int i), some (.int c), none, none] ∧ H3 = H2, ?_, ?_⟩
        · refine ⟨_, rfl, _, rfl, p, _, _, .ref l, rfl, rfl, SqL.of hp2, rfl, l, _, rfl, .inl (SqL.of hl2), _, _, rfl, rfl, _, rfl, ite2 (fun _ => ?_) (fun _ => ⟨rfl, rfl⟩)⟩
          refine ⟨_, rfl, _, rfl, _, _, rfl, rfl, ⟨by decide, by decide, by decide⟩, _, _, rfl, rfl, _, rfl, ite2 (fun _ => ?_) (fun _ => ⟨rfl, rfl⟩)⟩
          refine ⟨_, rfl, _, rfl, _, _, rfl, rfl, .inl ⟨by decide, by decide⟩, _, rfl, _, _, rfl, rfl, .inr ⟨_, rfl, _, _, rfl, rfl, ?_⟩⟩
          refine ⟨_, rfl, .inl ⟨_, rfl, _, rfl, _, _, rfl, rfl, ⟨m0, m1⟩, _, rfl, p, _, _, 2, rfl, rfl, hp2, rfl, ?_⟩⟩
          refine ⟨_, rfl, .inl ⟨_, rfl, _, rfl, _, _, rfl, rfl, m0, ?_⟩⟩
          exact k _ _ _ _ (Int.emod_nonneg _ (by omega)) (Int.emod_lt_of_pos _ m0) (by omega) (by omega) upd_same (b2.put _)
        · rintro σ3 H3 ⟨rfl, rfl⟩
          refine ⟨fun σ4 H4 => ∃ y : Int, 0 ≤ y ∧ y < 2147483648 ∧ σ4 = [some (.ref p), some (.int m), none, some (.int i), some (.int c), none, some (.int y)] ∧ H4 = H3, ?_, ?_⟩
          · refine ⟨_, rfl, .inl ⟨_, rfl, _, _, rfl, rfl, (by show (0 : Int) < 2147483563; decide), _, rfl, _, _, rfl, rfl, .inl ⟨by decide, by decide⟩, _, _, rfl, rfl, _, _, rfl, rfl, .inl ⟨_, rfl, _, _, rfl, rfl,
              ⟨by decide, by decide, ?_⟩, _, _, rfl, rfl, (by show (0 : Int) < 2147483579; decide), _, Int.emod_nonneg _ (by decide), Int.lt_trans (Int.emod_lt_of_pos _ (by decide)) (by decide), rfl, rfl⟩⟩⟩
            exact small1 i0 i1 n1
          · rintro σ4 H4 ⟨y, y0, y1, rfl, rfl⟩
            refine ⟨fun σ5 H5 => ∃ y : Int, 0 ≤ y ∧ y < 2147483648 ∧ σ5 = [some (.ref p), some (.int m), none, some (.int i), some (.int c), none, some (.int y)] ∧ H5 = H4, ?_, ?_⟩
            · refine ⟨_, rfl, _, rfl, _, _, rfl, rfl, .inl ⟨by decide, by decide⟩, _, _, rfl, rfl, _, _, rfl, rfl, .inl ⟨?_, ?_⟩, _, rfl, _, _, rfl, rfl, .inl ⟨by decide, by decide⟩, _, rfl, _, _, rfl, rfl, .inl ⟨?_, ?_⟩,
                _, _, rfl, rfl, _, _, rfl, rfl, .inl ⟨_, rfl, _, _, rfl, rfl, ⟨by decide, by decide, ?_⟩, _, _, rfl, rfl, (by show (0 : Int) < 2147483629; decide), _, Int.emod_nonneg _ (by decide), Int.lt_trans (Int.emod_lt_of_pos _ (by decide)) (by decide), rfl, rfl⟩⟩
              · exact Int.lt_of_lt_of_le (by decide) y0
              · exact Int.lt_trans y1 (by decide)
              · exact small3 i0
              · exact small4 i1 n1
              · exact small2 i0 i1 n1 y0 y1
            · rintro σ5 H5 ⟨y, y0, y1, rfl, rfl⟩
              refine ⟨_, rfl, _, _, rfl, rfl, ⟨by decide, by decide⟩, .inl ⟨_, rfl, _, rfl, _, _, rfl, rfl, m0, ?_⟩⟩
              exact k _ _ _ _ (Int.emod_nonneg _ (by omega)) (Int.emod_lt_of_pos _ m0) (by omega) (by omega) hp2 b2
theorem scPick : FnScope ["_law_pen_here", "_law_some"] ["_law_pen_here", "_law_some"] (defScope sPick) := ⟨rfl, rfl, rfl, by decide +kernel, rfl, by decide +kernel, by decide +kernel⟩
def spPick : Sp := fun vs H Q _ => ∃ (p l q : Addr) (cs : List Int) (n : Nat) (xs : List V), vs = [.ref p, .ref q] ∧ Pen H p l cs n ∧ H q = some (.lst xs) ∧ q ≠ p ∧ 0 < xs.length ∧ xs.length < 1000 ∧ n < 1000000 ∧
  ∀ (j : Nat) (x : V) (H' : Hp), xs[j]? = some x → Pen H' p l cs (n + 1) → But H H' p → Q x H'
theorem Pen.next {H H' : Hp} {p l : Addr} {cs : List Int} {n : Nat} {i g : Int} (h : Pen H p l cs n) (i0 : 0 ≤ i) (i1 : i ≤ n + 1) (hp : H' p = some (penO l i g)) (b : But H H' p) : Pen H' p l cs (n + 1) := by
  obtain ⟨i', g', h1, h2, h3, h4, h5⟩ := h
  refine ⟨i, g, hp, b _ _ ?_ h2, h3, i0, by omega⟩
  intro e
  subst e
  rw [h1] at h2
  have e := List.map_eq_cons_iff.mp (HO.lst.inj (Option.some.inj h2)).symm
  obtain ⟨_, _, _, q, _⟩ := e
  cases q
theorem ok_pick {f fD : Addr} {fd fdD : FuncData} (F : Fun K "_law_pick" "_law_pick" sPick f fd) (B : Bi mg) (FD : Fun K "_law_draw" "_law_draw" sDraw fD fdD) (bD : Binds K fdD ["_law_pen_here", "_law_many"] []) (mD : mg "_law_draw" = some (.ref fD)) :
    FnOk P w K mg base CX0 2 f fd ["_law_pen_here", "_law_some"] spPick := by
  have GD : FnOk P w K mg base CX0 1 fD fdD ["_law_pen_here", "_law_many"] spDraw := ok_draw FD B
  refine F.ok scPick (fun vs H Q E h => ?_) (fun cdv A outer s H vs Q E hr h => ?_)
  · obtain ⟨p, l, q, cs, n, xs, rfl, _⟩ := h
    rfl
  · obtain ⟨p, l, q, cs, n, xs, rfl, hP, hq, nqp, x0, x1, n1, k⟩ := h
    refine ⟨_, pss_one (ps_ret (pe_ix ix_list (pv 1) (pe_call GD hr rfl mD FD.kp bD .nil pass0 (pa_cons (pv 0) (pa_cons (pe_callB call_len_seq (by rfl) B.len PySem.boot_len (pa_cons (pv 1) pa_nil)) pa_nil))) (fun _ _ => rfl))), ?_⟩
    refine ⟨_, rfl, _, rfl, _, rfl, q, _, rfl, .inl (SqL.of hq), p, l, cs, n, _, rfl, hP, by omega, by omega, n1, fun d i g H' d0 d1 i0 i1 hp b => ?_⟩
    obtain ⟨j, rfl⟩ : ∃ j : Nat, d = j := ⟨d.toNat, by omega⟩
    have hj : j < xs.length := by omega
    exact ⟨q, xs, _, xs[j], rfl, rfl, SqL.of (b _ _ nqp hq), atI_nat (by simp [hj]), k j _ _ (by simp [hj]) (hP.next i0 i1 hp b) b⟩
theorem scPen : FnScope ["_law_script"] ["_law_script"] (defScope sPen) := ⟨rfl, rfl, rfl, by decide +kernel, rfl, by decide +kernel, by decide +kernel⟩
def spPen (K : PySem.W.Frag) : Sp := fun vs H Q _ => ∃ (a : Addr) (ns : List Int), vs = [.ref a] ∧ SqL K H a (ns.map V.int) ∧ ns.length ≤ 63 ∧ ∀ (p l : Addr) (cs : List Int) (H' : Hp), Pen H' p l cs 0 → Same H H' → Q (.ref p) H'
theorem ok_pen {f : Addr} {fd : FuncData} (F : Fun K "_law_pen" "_law_pen" sPen f fd) (mL : mg "list" = none) : FnOk P w K mg base CX0 1 f fd ["_law_script"] (spPen K) := by
  refine F.ok scPen (fun vs H Q E h => ?_) (fun cdv A outer s H vs Q E hr h => ?_)
  · obtain ⟨a, ns, rfl, _⟩ := h
    rfl
  · obtain ⟨a, ns, rfl, hS, hz, k⟩ := h
    refine ⟨_, pss_one (ps_ret (pe_lst (pa_cons (pe_callTy call_list_of (by rfl) mL (by decide +kernel) (pa_cons (pe_slice sl_list (pv 0) po_none (po_some pe_int)) pa_nil)) (pa_cons pe_int (pa_cons pe_int pa_nil))))), ?_⟩
    refine ⟨_, rfl, _, rfl, a, _, rfl, hS, fun q hq => ?_⟩
    refine ⟨q, _, rfl, .inl (SqL.of upd_same), fun l hl => ⟨(by show 3 ≤ sizeLine; decide), fun p hp => ?_⟩⟩
    have nql : q ≠ l := ne_of_none upd_same hl
    have nlp : l ≠ p := ne_of_none upd_same hp
    have hHl : H l = none := by rw [upd_ne nql.symm] at hl; exact hl
    have hHp : H p = none := by
      have h1 : p ≠ l := nlp.symm
      rw [upd_ne h1] at hp
      have h2 : p ≠ q := fun e => by rw [e, upd_same] at hp; cases hp
      rw [upd_ne h2] at hp
      exact hp
    refine k p l _ _ ⟨0, 0, upd_same, Eq.trans (upd_ne nlp) (Eq.trans upd_same (congrArg (fun z => some (HO.lst z)) (cut_ints ns none (some 63)).choose_spec.1)), Nat.le_trans (cut_ints ns none (some 63)).choose_spec.2 hz, Int.le_refl _, Int.le_refl _⟩ fun b o e => ?_
    rw [upd_ne (ne_of_none e hHp), upd_ne (ne_of_none e hHl), upd_ne (ne_of_none e hq)]
    exact e
end
end Sj
namespace Sj
open PySem L2 Sup
open NdefX (NF NScope ncx envF startF nscope_by)
abbrev sInv : Stmt := inClass (top 3) 0
abbrev sIsName : Stmt := top 13
abbrev sLegI : Stmt := inClass (top 15) 1
abbrev sDrvI : Stmt := inClass (top 16) 1
abbrev sLisI : Stmt := inClass (top 17) 1
theorem strLen (a b : Str) : (a ++ b).length = a.length + b.length := by
  exact strLen_append a b
section
variable {P : Program} {w : World} {K : PySem.W.Frag} {mg : Str → Option Value} {base : Heap}
theorem scInv : NScope ["self", "reason", "__class__"] ["self", "reason"] ["__class__"] (defScope sInv) := nscope_by (by decide +kernel)
/-- InvalidFrame(reason), reason a text -/
def spInv (K : PySem.W.Frag) (C : Addr) : Sp := fun vs H Q _ => ∃ (a : Addr) (z : Str), vs = [.ref a, .str z] ∧ (reprText z).length ≤ 1000 ∧ H a = some (exo a C none) ∧
  ∀ (dx : Addr), H dx = none → dx ≠ a → Q .non (upd (upd H dx (exd dx [("reason", .str z)])) a (exo a C (some dx)))
structure ExT (P : Program) (K : PySem.W.Frag) (mg : Str → Option Value) (C : Addr) (fld : Str) : Prop where
  sup : SupT P K mg C
  oex : OexC K C
  hm : PySem.W.ks_superIn K C C "__init__" = some (some (.builtin "ValueError.__init__"))
  hB : PySem.W.subIn K (.ref C) (.type "ValueError") = some true
  hs : PySem.W.mroIn K C (.ref C) = some true
  no : PySem.W.findIn K (.ref C) fld = some none
theorem ok_inv {f c cc C : Addr} {fd : FuncData} (F : FunS P K "__init__" "InvalidFrame.__init__" sInv f fd c cc C) (T : ExT P K mg C "reason") : FnOk P w K mg base CX0 1 f fd ["self", "reason"] (spInv K C) := by
  refine fn_super F scInv (fun vs H Q E h => ?_) (fun A outer s H vs Q E hr h s1 I => ?_)
  · obtain ⟨a, z, rfl, _⟩ := h
    rfl
  · obtain ⟨a, z, rfl, hz, ha, k⟩ := h
    refine super_exc (me := "self") (x := a) (C := C) (atS_of F rfl rfl rfl rfl ⟨_, rfl, rfl⟩) T.sup T.oex rfl T.hm T.hB T.hs
      (pa_cons (pe_joined (.cons pe_str (.cons (pe_fmtR (pv 1)) .nil))) pa_nil) (pss_one (ps_ost (pv 0) (pv 1))) I rfl ha ?_ rfl rfl rfl rfl rfl
    refine ⟨_, rfl, by decide +kernel, _, rfl, .inl ⟨z, rfl, Nat.le_trans hz (by decide), _, rfl, ?_, by show 1 ≤ 1000; decide, ha, ?_⟩⟩
    · have e1 : ((Str.empty ++ ("invalid frame: " : Str)) ++ reprText z).length ≤ 15 + (reprText z).length := by
        rw [strLen]
        exact Nat.add_le_add_right (by decide +kernel) _
      exact Nat.le_trans e1 (Nat.le_trans (Nat.add_le_add_left hz 15) (by decide))
    · exact ⟨_, rfl, _, rfl, a, C, rfl, T.oex, T.no, .inl ⟨ha, fun dx hd hne => k dx hd hne⟩⟩
end
end Sj
namespace Sj
open PySem L2 Sup
open NdefX (NF NScope ncx envF startF nscope_by)
open C8 (pss_cut tCut)
def lettersS : Str := "abcdefghijklmnopqrstuvwxyz"
def reservedV : List V := [.str "ground", .str "power", .str "nothing"]
/-- whether a text is a name -/
def isName (z : Str) : Bool := decide ((1 : Int) ≤ z.length) && decide ((z.length : Int) ≤ 8) && !inV (.str z) reservedV && z.cps.toList.all fun c => decide (c ∈ lettersS.cps.toList)
structure NmT (K : PySem.W.Frag) (mg : Str → Option Value) : Prop where
  isi : mg "isinstance" = none
  str : mg "str" = none
  len : mg "len" = none
  all : mg "all" = none
  letters : ∃ t, mg "LETTERS" = some (.str lettersS t)
  longest : ∃ t, mg "LONGEST" = some (.int 8 t)
  reserved : ∃ a, mg "RESERVED" = some (.ref a) ∧ ∀ H, SqT K H a reservedV
def spIsName (K : PySem.W.Frag) : Sp := fun vs H Q _ => ∃ x : V, vs = [x] ∧
  ((∃ z : Str, x = .str z ∧ z.length ≤ 1000 ∧ ∀ H', Same H H' → Q (.bl (isName z)) H') ∨
   ∃ t : String, TyX K H x (.type t) ∧ kitB t "str" = some false ∧ Q (.bl false) H)
section
variable {P : Program} {w : World} {K : PySem.W.Frag} {mg : Str → Option Value} {base : Heap}
theorem scIsName : FnScope ["value", "sign"] ["value"] (defScope sIsName) := ⟨rfl, rfl, rfl, by decide +kernel, rfl, by decide +kernel, by decide +kernel⟩
theorem ok_isname {f : Addr} {fd : FuncData} (F : Fun K "is_name" "is_name" sIsName f fd) (T : NmT K mg) : FnOk P w K mg base CX0 1 f fd ["value"] (spIsName K) := by
  obtain ⟨tL, gL⟩ := T.letters
  obtain ⟨tN, gN⟩ := T.longest
  obtain ⟨aR, gR, hR⟩ := T.reserved
  refine F.ok scIsName (fun vs H Q E h => ?_) (fun cdv A outer s H vs Q E hr h => ?_)
  · obtain ⟨x, rfl, _⟩ := h
    rfl
  · obtain ⟨x, rfl, h⟩ := h
    refine ⟨_, pss_cons
      (ps_if (PW.pt (pw_or (pt_not (pt_val (pe_callB call_isi (by rfl) T.isi (by decide +kernel) (pa_cons (pv 0) (pa_cons (pe_bltn (by rfl) T.str (by decide +kernel) (v := .ty "str") rfl) pa_nil)))))
          (pw_or1 (pt_not (pt_chain op_le op_le pe_int (pe_callB call_len_str (by rfl) T.len PySem.boot_len (pa_cons (pv 0) pa_nil)) (pe_glob rfl gN (v := .int 8) ⟨_, rfl⟩))))))
        (pss_one (ps_ret pe_bl)) pss_nil)
      (pss_one (ps_ret (pe_and (pe_cmpR op_notIn_seq (pv 0) (pe_glob rfl gR (v := .ref aR) rfl) (by rfl))
        (pe_one (pe_callB (cr_all rfl) (by rfl) T.all (by decide +kernel) (pa_cons
          (pe_lc (own := [("sign", 1)]) (g := gName 1) (tt := tYes) rfl scIsName.nd (pi_str (pv 0)) (blkOk_by (N := ["value", "sign"]) (sc := defScope sIsName) (by decide +kernel))
            (fun _ _ _ _ _ => pg_name (i := 1) scIsName.nd rfl (Or.inl rfl)) (fun _ _ _ _ _ => pts_nil) (fun _ _ _ _ _ => pe_cmpR op_in_sign (pv 1) (pe_glob rfl gL (v := .str lettersS) ⟨_, rfl⟩) (by rfl))) pa_nil)))))), ?_⟩
    rcases h with ⟨z, rfl, hz, k⟩ | ⟨t, ht, hk, k⟩
    · have hzl : z.length ≤ sizeLine := small1000 hz |> Nat.le_of_lt
      refine ⟨_, rfl, _, _, .type "str", .type "str", true, rfl, .ty _, .base (.str _), kit_ty (by decide +kernel), _, rfl, iteF ?_⟩
      refine ⟨_, rfl, _, rfl, hzl, _, _, rfl, rfl, _, rfl, ?_⟩
      have e0 : isName z = (decide ((1 : Int) ≤ z.length) && decide ((z.length : Int) ≤ 8) && !inV (.str z) reservedV && z.cps.toList.all fun c => decide (c ∈ lettersS.cps.toList)) := rfl
      by_cases h1 : (1 : Int) ≤ z.length
      · rw [decide_eq_true h1]
        refine iteT ⟨_, _, rfl, rfl, _, rfl, ?_⟩
        by_cases h2 : (z.length : Int) ≤ 8
        · rw [decide_eq_true h2]
          refine iteF ⟨_, rfl, aR, _, rfl, .inr (hR _), rfl, rfl, _, rfl, ?_⟩
          rw [decide_eq_true h1, decide_eq_true h2] at e0
          cases h3 : inV (.str z) reservedV with
          | true =>
            rw [h3] at e0
            refine iteF ?_
            rw [show isName z = false from e0] at k
            exact k _ (Same.refl _)
          | false =>
            rw [h3] at e0
            refine iteT ?_
            refine ⟨_, rfl, z, rfl, fun D hD => lc_it walk_str (fun i H' => Same H H' ∧ H' D = some (.lst (((z.cps.toList.take i).map fun c => decide (c ∈ lettersS.cps.toList)).map V.bl))) ⟨?_, ?_⟩ (fun _ _ _ _ => True.intro) ?_ ?_⟩
            · exact fun b o e => by rw [upd_ne (ne_of_none e hD)]; exact e
            · rw [upd_same]; rfl
            · rintro i x H1 H2 hi ⟨s1, d1⟩ ⟨rfl, c, hc, rfl⟩
              refine ⟨rfl, ?_⟩
              unfold tYes
              dsimp only
              rw [if_pos rfl]
              refine ⟨_, rfl, c, lettersS, rfl, rfl, _, d1, ?_, ?_, ?_⟩
              · rw [List.length_map, List.length_map, List.length_take]
                exact Nat.lt_of_le_of_lt (Nat.min_le_right _ _) (Nat.lt_of_le_of_lt (show z.cps.toList.length ≤ 1000 from hz) (by decide))
              · exact fun b o e => by rw [upd_ne (ne_of_none e hD)]; exact s1 _ _ e
              · rw [upd_same]
                have hc' : z.cps.toList[i]? = some c := by rw [Array.getElem?_toList]; exact hc
                rw [List.take_add_one, hc', List.map_append, List.map_append]
                rfl
            · rintro H1 ⟨s1, d1⟩
              refine ⟨D, (z.cps.toList.take z.cps.size).map (fun c => decide (c ∈ lettersS.cps.toList)), rfl, SqL.of d1, ?_⟩
              have e2 : (z.cps.toList.take z.cps.size) = z.cps.toList := List.take_of_length_le (by rw [Array.length_toList]; exact Nat.le_refl _)
              have e1 : List.all ((z.cps.toList.take z.cps.size).map (fun c => decide (c ∈ lettersS.cps.toList))) id = z.cps.toList.all fun c => decide (c ∈ lettersS.cps.toList) := by
                rw [e2, List.all_map]; rfl
              have e3 : isName z = List.all ((z.cps.toList.take z.cps.size).map (fun c => decide (c ∈ lettersS.cps.toList))) id := by
                rw [e0, e1]; simp
              show Q (.bl (List.all _ id)) H1
              rw [← e3]
              exact k _ s1
        · rw [decide_eq_false h2]
          rw [decide_eq_false h2, Bool.and_false] at e0
          rw [show isName z = false from by rw [e0]; rfl] at k
          exact iteT (k _ (Same.refl _))
      · rw [decide_eq_false h1] at e0 ⊢
        rw [show isName z = false from e0] at k
        exact iteF ⟨_, rfl, iteT (k _ (Same.refl _))⟩
    · refine ⟨_, rfl, _, _, .type t, .type "str", false, rfl, .ty _, ht, kit_ty hk, _, rfl, iteT ?_⟩
      exact iteT k
end
end Sj
namespace Sj
open PySem L2 Sup
open NdefX (NF NScope ncx envF startF nscope_by)
open C8 (pss_cut tCut)
/-- a leg's attributes -/
def legF (z : Str) : List (Str × V) := putF "name" (.str z) []
theorem legF_name (z : Str) : (legF z).lookup ("name" : Str) = some (.str z) := by
  unfold legF
  rw [lookup_putF, if_pos rfl]
def errH (H H' : Hp) (d : Addr) (fld : Str) (v : V) : Prop := H d = none ∧ H' d = some (.xd [(fld, v)]) ∧ Same H H'
/-- X.__init__(self, name) of a leg's class: the wish of an error -/
def spLegI (K : PySem.W.Frag) (CI C : Addr) : Sp := fun vs H Q E => ∃ (p dx : Addr) (x : V), vs = [.ref p, x] ∧ H p = some (.ins C dx []) ∧
  ((∃ z : Str, x = .str z ∧ z.length ≤ 1000 ∧ (isName z = true → ∀ H', H' p = some (.ins C dx (legF z)) → But H H' p → Q .non H') ∧
      (isName z = false → ∀ d H', errH H H' d "reason" (.str "name") → E (.ref CI) (some d) H')) ∨
   ∃ t : String, TyX K H x (.type t) ∧ kitB t "str" = some false ∧ ∀ d H', errH H H' d "reason" (.str "name") → E (.ref CI) (some d) H')
structure LgT (P : Program) (K : PySem.W.Frag) (mg : Str → Option Value) (CI fI f n : Addr) : Prop where
  ex : ExT P K mg CI "reason"
  iC : PySem.W.findIn K (.ref CI) "__init__" = some (some (.ref fI))
  tI : PySem.W.typeIn K (.ref fI) = some (.type "function")
  mI : mg "InvalidFrame" = some (.ref CI)
  mN : mg "is_name" = some (.ref n)
structure LegC (K : PySem.W.Frag) (C : Addr) : Prop where
  cl : Cls K C
  nN : NoAttr K C "name"
section
variable {P : Program} {w : World} {K : PySem.W.Frag} {mg : Str → Option Value} {base : Heap}
theorem scLegI : FnScope ["self", "name"] ["self", "name"] (defScope sLegI) := ⟨rfl, rfl, rfl, by decide +kernel, rfl, by decide +kernel, by decide +kernel⟩
theorem ok_legI {f fI fN CI C c cc : Addr} {fd fdI fdN : FuncData} (F : Fun K "__init__" "Leg.__init__" sLegI f fd) (T : LgT P K mg CI fI f fN) (NT : NmT K mg) (LC : LegC K C)
    (FN : Fun K "is_name" "is_name" sIsName fN fdN) (bN : Binds K fdN ["value"] []) (FI : FunS P K "__init__" "InvalidFrame.__init__" sInv fI fdI c cc CI) (bI : Binds K fdI ["self", "reason"] []) :
    FnOk P w K mg base (L2.CX P w) 3 f fd ["self", "name"] (spLegI K CI C) := by
  have GN : FnOk P w K mg base CX0 1 fN fdN ["value"] (spIsName K) := ok_isname FN NT
  have GI : FnOk P w K mg base CX0 1 fI fdI ["self", "reason"] (spInv K CI) := ok_inv FI T.ex
  refine F.okX scLegI (fun vs H Q E h => ?_) (fun cdv A outer s H vs Q E hr h => ?_)
  · obtain ⟨p, dx, x, rfl, _⟩ := h
    rfl
  · obtain ⟨p, dx, x, rfl, hp, h⟩ := h
    have hr1 : Room 1 _ := hr.mono (by decide)
    refine ⟨_, pss_cons (ps_if (pt_not (pt_val (pe_call GN hr1 rfl T.mN FN.kp bN .nil pass0 (pa_cons (pv 1) pa_nil))))
        (pss_one (ps_raise rfl (takes_of rfl rfl rfl rfl) (pmk_oex T.ex.oex T.iC T.tI GI hr bI .nil pass0 rfl T.mI (pa_cons pe_str pa_nil)))) pss_nil)
      (pss_one (ps_fld (pv 0) (pv 1) rfl)), ?_⟩
    have fin : ∀ H1, Same H H1 → (∀ d H', errH H H' d "reason" (.str "name") → E (.ref CI) (some d) H') →
        tMkO CI (spInv K CI) [] (tCons (tC (.str "name")) tNil) (start ["self", "name"] [.ref p, x]) H1 fun cls d H' => E cls d H' := fun H1 s1 k => by
      refine ⟨by show 1 ≤ 1000; decide, fun a ha => ⟨a, "name", rfl, by decide +kernel, upd_same, fun d hd hda => ⟨rfl, d, [("reason", .str "name")], upd_same, ?_, ?_, ?_⟩⟩⟩
      · rw [upd_ne hda, upd_same]
      · rw [upd_ne hda] at hd
        exact hd
      · refine k d _ ⟨?_, upd_same, fun b o e => ?_⟩
        · rw [upd_ne hda] at hd
          exact s1.free hd
        · rw [upd_ne hda] at hd
          have e1 := s1 _ _ e
          have nbd : b ≠ d := ne_of_none e1 hd
          have nba : b ≠ a := ne_of_none e1 ha
          rw [upd_ne nbd, del_ne nba, upd_ne nba, upd_ne nbd, upd_ne nba]
          exact e1
    rcases h with ⟨z, rfl, hz, k1, k2⟩ | ⟨t, ht, hk, k2⟩
    · refine ⟨_, rfl, _, rfl, .inl ⟨z, rfl, hz, fun H1 s1 => ⟨_, rfl, ?_⟩⟩⟩
      cases hn : isName z with
      | true =>
        refine iteF ⟨_, rfl, _, rfl, p, C, dx, _, rfl, s1 _ _ hp, LC.cl, LC.nN, by show 0 < 1000; decide, ?_⟩
        exact k1 hn _ upd_same fun b o hb e => by rw [upd_ne hb]; exact s1 _ _ e
      | false => exact iteT (fin H1 s1 (k2 hn))
    · refine ⟨_, rfl, _, rfl, .inr ⟨t, ht, hk, ⟨_, rfl, ?_⟩⟩⟩
      exact iteT (fin H (Same.refl _) k2)
end
end Sj
namespace Sj
open PySem L2 Sup
open NdefX (NF NScope ncx envF startF nscope_by)
open C8 (pss_cut tCut)
structure SubT (P : Program) (K : PySem.W.Frag) (mg : Str → Option Value) (C f : Addr) : Prop where
  sup : SupT P K mg C
  hm : PySem.W.ks_superIn K C C "__init__" = some (some (.ref f))
  tf : PySem.W.typeIn K (.ref f) = some (.type "function")
  ff : PySem.W.fnIn K f = true
  hs : PySem.W.mroIn K C (.ref C) = some true
section
variable {P : Program} {w : World} {K : PySem.W.Frag} {mg : Str → Option Value} {base : Heap}
theorem scDrvI : NScope ["self", "name", "__class__"] ["self", "name"] ["__class__"] (defScope sDrvI) := nscope_by (by decide +kernel)
theorem scLisI : NScope ["self", "name", "__class__"] ["self", "name"] ["__class__"] (defScope sLisI) := nscope_by (by decide +kernel)
theorem ok_drvI {fL f CI C c cc : Addr} {fd fdL : FuncData} (F : FunS P K "__init__" "Driver.__init__" sDrvI f fd c cc C) (T : SubT P K mg C fL) (bL : Binds K fdL ["self", "name"] [])
    (GL : FnOk P w K mg base (L2.CX P w) 3 fL fdL ["self", "name"] (spLegI K CI C)) : FnOk P w K mg base (L2.CX P w) 4 f fd ["self", "name"] (spLegI K CI C) := by
  refine fn_super F scDrvI (fun vs H Q E h => ?_) (fun A outer s H vs Q E hr h s1 I => ?_)
  · obtain ⟨p, dx, x, rfl, _⟩ := h
    rfl
  · obtain ⟨p, dx, x, rfl, hp, h⟩ := h
    refine super_own (me := "self") (x := p) (C := C) (E := E) (atS_of F rfl rfl rfl rfl ⟨_, rfl, rfl⟩) T.sup GL hr bL .nil (passes_call (takes_of rfl rfl rfl rfl) fun _ _ _ _ h => h) rfl T.hm T.tf T.ff T.hs (by decide)
      (pa_cons (pv 1) pa_nil) pss_nil I rfl (ins_obj I hp) ?_ rfl rfl rfl rfl rfl
    exact ⟨_, rfl, p, dx, x, rfl, hp, h⟩
theorem ok_lisI {fL f CI C c cc : Addr} {fd fdL : FuncData} (F : FunS P K "__init__" "Listener.__init__" sLisI f fd c cc C) (T : SubT P K mg C fL) (bL : Binds K fdL ["self", "name"] [])
    (GL : FnOk P w K mg base (L2.CX P w) 3 fL fdL ["self", "name"] (spLegI K CI C)) : FnOk P w K mg base (L2.CX P w) 4 f fd ["self", "name"] (spLegI K CI C) := by
  refine fn_super F scLisI (fun vs H Q E h => ?_) (fun A outer s H vs Q E hr h s1 I => ?_)
  · obtain ⟨p, dx, x, rfl, _⟩ := h
    rfl
  · obtain ⟨p, dx, x, rfl, hp, h⟩ := h
    refine super_own (me := "self") (x := p) (C := C) (E := E) (atS_of F rfl rfl rfl rfl ⟨_, rfl, rfl⟩) T.sup GL hr bL .nil (passes_call (takes_of rfl rfl rfl rfl) fun _ _ _ _ h => h) rfl T.hm T.tf T.ff T.hs (by decide)
      (pa_cons (pv 1) pa_nil) pss_nil I rfl (ins_obj I hp) ?_ rfl rfl rfl rfl rfl
    exact ⟨_, rfl, p, dx, x, rfl, hp, h⟩
end
end Sj
namespace Sup
open PySem PySem.Spec PyProof.Rows L2
/-! ### x == y, x != y where x or y is an instance with an __eq__ of its own -/
end Sup
namespace Sup
open PySem PySem.Spec PyProof.Rows L2
end Sup
namespace Sj
open PySem L2 Sup
open NdefX (NF NScope ncx envF startF nscope_by)
open C8 (pss_cut tCut)
abbrev sLeg (i : Nat) : Stmt := inClass (top 15) i
abbrev sDrv (i : Nat) : Stmt := inClass (top 16) i
abbrev sLis (i : Nat) : Stmt := inClass (top 17) i
/-- a leg of the class at C with the name z stands at a -/
def LegAt (H : Hp) (a C : Addr) (z : Str) : Prop := ∃ dx, H a = some (.ins C dx (legF z))
theorem LegAt.same {H H' : Hp} {a C : Addr} {z : Str} (h : LegAt H a C z) (s : Same H H') : LegAt H' a C z := h.imp fun _ e => s _ _ e
def spDr (C : Addr) (b : Bool) : Sp := fun vs H Q _ => ∃ a z, vs = [.ref a] ∧ LegAt H a C z ∧ Q (.bl b) H
/-- the facts of a class that isinstance asks -/
structure IsiC (K : PySem.W.Frag) (C : Addr) : Prop where
  cl : Cls K C
  ca : PySem.W.findIn K (.ref C) "__class__" = some (some (.builtin "object.__class__"))
  cn : PySem.W.specialIn K (.builtin "object.__class__") "__get__" = some (some (.builtin "getset_descriptor.__get__"))
  ct : PySem.W.takesIn K (.builtin "object.__class__") = some true
  cm : PySem.W.mroIn K C (.type "object") = some true
theorem LegAt.ty {K : PySem.W.Frag} {H : Hp} {a C : Addr} {z : Str} (h : LegAt H a C z) (c : IsiC K C) : TyX K H (.ref a) (.ref C) := by
  obtain ⟨dx, e⟩ := h
  exact .base (.ins e c.cl c.ca c.cn c.ct c.cm)
section
variable {P : Program} {w : World} {K : PySem.W.Frag} {mg : Str → Option Value} {base : Heap}
theorem scS1 {st : Stmt} (h : defScope st = defScope (sLeg 2)) : FnScope ["self"] ["self"] (defScope st) := by
  rw [h]
  exact ⟨rfl, rfl, rfl, by decide +kernel, rfl, by decide +kernel, by decide +kernel⟩
theorem ok_drives {f C : Addr} {fd : FuncData} {st : Stmt} {q : Str} {b : Bool} {p1 p2 : Pos} {i1 : Nat} (F : Fun K "drives" q st f fd) (hs : defScope st = defScope (sLeg 2)) (hb : defBody st = [.Return (some (.Constant (.bool b) i1 p1)) p2]) :
    FnOk P w K mg base CX0 1 f fd ["self"] (spDr C b) := by
  refine F.ok (scS1 hs) (fun vs H Q E h => ?_) (fun cdv A outer s H vs Q E hr h => ?_)
  · obtain ⟨a, z, rfl, _⟩ := h
    rfl
  · obtain ⟨a, z, rfl, _, k⟩ := h
    rw [hb]
    exact ⟨_, pss_one (ps_ret pe_bl), k⟩
end
end Sj
/-! {e for x in xs if ..}, e an int or a text (SetK), and len of such a set -/
namespace SetT
open PySem PySem.Spec PyProof.Rows L2
/-- the empty set at D -/
abbrev zeroK (P : Program) (w : World) (D : Addr) : HO := SetK P w D (fun _ => false) 0
/-- y is added to the set at D, then Nx -/
def rAdd (P : Program) (w : World) (D : Addr) (y : V) (H : Hp) (Nx : Hp → Prop) : Prop := ∃ (c : Key) (S : Key → Bool) (n : Nat), y = kV c ∧ H D = some (SetK P w D S n) ∧ n + 1 < scanBound ∧ Nx (upd H D (SetK P w D (fun j => S j || decide (j = c)) (if S c = true then n else n + 1)))
/-- one turn's reading -/
def turnT (P : Program) (w : World) (D : Addr) (g : TG) (tt : TT) (te : TE) (vs : List Nat) (σ : L2.St) (Nx : Hp → Prop) (x : V) (H : Hp) : Prop :=
  g x (wipe σ vs) H fun σ2 H2 => wipe σ2 vs = wipe σ vs ∧ tt σ2 H2 fun b H3 => if b = true then te σ2 H3 fun y H4 => rAdd P w D y H4 Nx else Nx H3
/-- all turns: W i m: ahead of turn i, m falls -/
def loopT (P : Program) (w : World) (D : Addr) (J : It) (g : TG) (tt : TT) (te : TE) (vs : List Nat) (σ : L2.St) (W : Nat → Nat → Hp → Prop) (Qd : Hp → Prop) : Prop :=
  ∀ i m H, W i m H → (J.stop i H ∧ Qd H) ∨ (J.go i H ∧ ∃ Nx : Hp → Prop, (∀ H', Nx H' → ∃ m', m' < m ∧ W (i + 1) m' H') ∧ ∀ x H', J.yld i H x H' → turnT P w D g tt te vs σ Nx x H')
def tSet (P : Program) (w : World) (wi : TI) (g : TG) (tt : TT) (te : TE) (vs : List Nat) : TE := fun σ H Q => wi σ H fun J H1 => ∀ D, H1 D = none → ∃ W : Nat → Nat → Hp → Prop, (∃ m, W 0 m (upd H1 D (zeroK P w D))) ∧ loopT P w D J g tt te vs σ W (Q (.ref D))
section
variable {X : Cx}
theorem zero_new {P : Program} {w : World} {h : Heap} : (h.push { cls := .type "set", dict := none, data := .set #[] 0 (.fresh 0 0 (!w.params.followText "set-order")) }).SetOf (mixKind P w) h.objs.size (fun _ => false) 0 :=
  ⟨_, #[], 0, _, Heap.get?_push_size _ rfl, ⟨rfl, rfl, rfl⟩, rfl, (fun e he => by simp at he), (fun k => by simp), (by decide), (by rfl), rfl⟩
/-- the loop in the block's context Y -/
theorem loop_run {Y : Cx} {elt tg iter : Expr} {ifs : List Expr} {scope : Scope} {pos : Pos} {it D : Addr} {J : It} {g : TG} {tt : TT} {te : TE} {vs : List Nat} {fp : List Addr} {tn : Nat → Heap → Prop} {σ : L2.St} {W : Nat → Nat → Hp → Prop} {Qd : Hp → Prop} {R : Result → Shared → Prop}
    (hc : Y.calm = true) (T : Turn Y.prog Y.w Y.K tg J fp it tn) (hg : PG Y tg g) (ht : PTs Y ifs tt) (he : PE Y elt te) (hl : loopT Y.prog Y.w D J g tt te vs σ W Qd)
    (xe : ∀ e s', Y.xe e s' → notedBy (model Y.prog Y.w) Y.A Y.env (fun e s' => R (.error e) s') e s')
    (stat : ∀ (σ' : L2.St) (H' : Hp) (s' : Shared), Inv Y [] σ' H' s' → (∀ b ∈ fp, H' b = none) → ∀ b ∈ fp, FpOk Y [] H' b)
    (fin : ∀ i s' H', Inv Y [] (wipe σ vs) H' s' → tn i s'.heap → (∀ b ∈ fp, H' b = none) → J.stop i H' → Qd H' → ∀ s6, Inv Y [] (wipe σ vs) H' s6 → R (.ok .next) s6)
    {i m : Nat} {H : Hp} {s : Shared} (I : Inv Y [] (wipe σ vs) H s) (st : tn i s.heap) (nf : ∀ b ∈ fp, H b = none) (hw : W i m H) :
    codeAny (model Y.prog Y.w) Y.A (.compLoop (.SetComp elt [⟨tg, iter, ifs, 0⟩] scope pos) 0 (.ref it) (.ref D) Y.env) R s := by
  refine PpSet.compLoopS_any (fun n s' => ∃ i H', Inv Y [] (wipe σ vs) H' s' ∧ tn i s'.heap ∧ (∀ b ∈ fp, H' b = none) ∧ W i n H') ?_ m ⟨i, H, I, st, nf, hw⟩
  rintro n s5 ⟨i, H5, I5, st5, n5, w5⟩
  rcases hl i n H5 w5 with ⟨stop, qq⟩ | ⟨go, Nx, hNx, step⟩
  · refine thnF (T.done Y rfl rfl rfl hc i [] s5 _ H5 (fun _ _ => False) I5 (stat _ _ _ I5 n5) st5 stop) fun r s6 ⟨hr, I6⟩ => ?_
    subst hr
    exact fin i s5 H5 I5 st5 n5 stop qq s6 I6
  · refine thnF (T.item Y rfl rfl rfl hc i [] s5 _ H5 (fun _ _ => False) I5 (stat _ _ _ I5 n5) st5 go) fun r s6 ⟨u, hr, h6⟩ => ?_
    subst hr
    refine thnF h6 fun _ s7 ⟨x, H7, I7, r7, y7, st7, n7⟩ => ?_
    have I7' := I7.pinned (stat _ _ _ I7 n7) (T.obj _ _ st7)
    refine wpAny_mono (hg.run _ s7 _ H7 x u _ I7' r7 (step x H7 y7)) (fun _ s8 ⟨σ8, H8, I8, hw8, q8⟩ => ?_) xe
    -- what stands when a turn is through
    have back : ∀ {s' : Shared} {H' : Hp}, Inv Y ([] ++ pinsAt fp s7.heap) σ8 H' s' → Nx H' → ∃ m, m < n ∧ ∃ i H', Inv Y [] (wipe σ vs) H' s' ∧ tn i s'.heap ∧ (∀ b ∈ fp, H' b = none) ∧ W i m H' := fun {s' H'} I' nx => by
      obtain ⟨m', hm, w'⟩ := hNx H' nx
      have held : ∀ b ∈ fp, ∀ o, s7.heap.get? b = some o → s'.heap.get? b = some o ∧ H' b = none := fun b hb o e => by
        have z := I'.pin (b, o) (List.mem_append_right _ (List.mem_append_right _ (mem_pinsAt hb e)))
        exact ⟨z.1, z.2.1⟩
      refine ⟨m', hm, i + 1, H', ?_, T.keep _ _ _ st7 fun b hb o e => (held b hb o e).1, fun b hb => ?_, w'⟩
      · refine (I'.unpinned (pins := [])).weak (by rw [← hw8, wipe_length]) fun j v e => ?_
        rw [← hw8] at e
        exact (wipe_some e).1
      · obtain ⟨o, e, _⟩ := T.obj _ _ st7 b hb
        exact (held b hb o e).2
    refine wpAny_mono (ht.run _ s8 σ8 H8 _ I8 q8) (fun b s9 ⟨H9, I9, q9⟩ => ?_) xe
    cases b with
    | false =>
      simp only [Bool.false_eq_true, if_false] at q9 ⊢
      exact back I9 q9
    | true =>
      simp only [if_true] at q9 ⊢
      refine wpAny_mono (he.run _ s9 σ8 H9 _ I9 q9) (fun z s10 ⟨yv, H10, I10, r10, c, S, n0, ey, hD, hz, nx⟩ => ?_) xe
      refine wpAny_mono (mt_saddK _ s10 σ8 H10 (.ref D) [yv] (.ref D) [z] (fun _ H' => Nx H') I10 rfl (.cons r10 .nil) ⟨D, c, S, n0, rfl, by rw [ey], hD, hz, nx⟩) (fun _ s11 ⟨_, H11, I11, _, q11⟩ => back I11 q11) xe
/-- the block's start, the set at D laid -/
theorem start_run {elt tg iter : Expr} {ifs : List Expr} {scope : Scope} {own : List (PySem.Str × Nat)} {pos : Pos} {J : It} {g : TG} {tt : TT} {te : TE} {pins : List (Addr × Obj)} {σ : L2.St} {s3 : Shared} {H3 : Hp} {it D : Addr} {fp : List Addr} {tn : Nat → Heap → Prop} {W : Nat → Nat → Hp → Prop} {m0 : Nat} {Q : VK}
    (hc : X.calm = true) (hN : X.N.Nodup) (ok : BlkOk X.N X.env.scope scope own) (I3 : Inv X pins σ H3 s3) (f3 : ∀ b ∈ fp, FpOk X pins H3 b ∧ b < s3.heap.objs.size) (T : Turn X.prog X.w X.K tg J fp it tn) (st3 : tn 0 s3.heap)
    (hg : ∀ (s : Shared) (H : Hp) (C : Addr) (cl : List (PySem.Str × Addr)) (fp : List Addr), PG (X.blk s H scope (compEnvC scope cl C X.env) fp) tg g) (ht : ∀ (s : Shared) (H : Hp) (C : Addr) (cl : List (PySem.Str × Addr)) (fp : List Addr), PTs (X.blk s H scope (compEnvC scope cl C X.env) fp) ifs tt)
    (he : ∀ (s : Shared) (H : Hp) (C : Addr) (cl : List (PySem.Str × Addr)) (fp : List Addr), PE (X.blk s H scope (compEnvC scope cl C X.env) fp) elt te) (w0 : W 0 m0 H3) (hl : loopT X.prog X.w D J g tt te (own.map (·.2)) σ W (Q (.ref D))) :
    codeAny (model X.prog X.w) X.A (.compStart (.SetComp elt [⟨tg, iter, ifs, 0⟩] scope pos) 0 (.ref it) (.ref D) (compEnvC scope (cellsFrom (s3.heap.objs.size + 1) scope.names (cloFrom X.env.cells scope.names [])) s3.heap.objs.size X.env))
      (compPost (model X.prog X.w) X.A X.xe none (EP X pins σ Q) (.ref D) s3.heap.objs.size) { s3 with heap := pushCells (s3.heap.push { cls := .type "dict", data := .dict #[] }) scope.names } := by
  have I4 := block_start I3 ok hN f3
  have st4 := T.keep _ _ (pushCells (s3.heap.push { cls := .type "dict", data := .dict #[] }) scope.names) st3 fun b _ o e => pushCells_keeps _ _ _ _ (Heap.get?_push_of_some _ e)
  have loop := loop_run (Y := X.blk s3 H3 scope (compEnvC scope (cellsFrom (s3.heap.objs.size + 1) scope.names (cloFrom X.env.cells scope.names [])) s3.heap.objs.size X.env) fp) (elt := elt) (iter := iter) (scope := scope) (pos := pos)
    (R := compPost (model X.prog X.w) X.A X.xe none (EP X pins σ Q) (.ref D) s3.heap.objs.size) hc T (hg _ _ _ _ _) (ht _ _ _ _ _) (he _ _ _ _ _) hl (fun _ _ z => False.elim z)
    (fun σ' H' s' I' hn b hb => ⟨hn b hb, (I'.ok.exf b hb).1, I'.ok.exfs b hb, .inl hb, fun x c e => (I'.ok.exf b hb).2 x c e, fun p hp => absurd (show p ∈ ([] : List (Addr × Obj)) ++ [] from hp) (by simp)⟩)
    (fun i s' H' I' _ _ _ qd s6 I6 => ?_) I4 st4 (fun b hb => (f3 b hb).1.1) w0
  · exact PpSet.codeAny_compStart_set loop (T.self X.A 0 _ _ _ st4 loop)
  · have I7 : Inv X pins σ H' s6 := I3.call' (ch := fp) I6.os I6.base I6.hok I6.bare fun b hb => ⟨(f3 b hb).1.2.2.2.1, (f3 b hb).1.2.1, (f3 b hb).1.2.2.2.2.1, (f3 b hb).1.2.2.2.2.2⟩
    have nC : H' s3.heap.objs.size = none := I6.free
    obtain ⟨m, hn, _⟩ := I6.loc
    obtain ⟨f0, f1, f2', f4, f5, f6⟩ := I3.fpOk (H' := H') (Nat.le_refl _) nC
    exact ⟨m, hn, fun h'' sb => ⟨.ref D, H', I7.turned (t' := s6.toks) (fun b o hb e => (sb.2 b hb).trans e) f0 f1 f4 f5 f6, rfl, qd⟩⟩
/-- {e for x in xs if ..} -/
theorem pe_set {elt tg iter : Expr} {ifs : List Expr} {scope : Scope} {own : List (PySem.Str × Nat)} {pos : Pos} {wi : TI} {g : TG} {tt : TT} {te : TE} (hc : X.calm = true) (hN : X.N.Nodup) (hi : PI X tg iter wi) (ok : BlkOk X.N X.env.scope scope own)
    (hg : ∀ (s : Shared) (H : Hp) (C : Addr) (cl : List (PySem.Str × Addr)) (fp : List Addr), PG (X.blk s H scope (compEnvC scope cl C X.env) fp) tg g) (ht : ∀ (s : Shared) (H : Hp) (C : Addr) (cl : List (PySem.Str × Addr)) (fp : List Addr), PTs (X.blk s H scope (compEnvC scope cl C X.env) fp) ifs tt)
    (he : ∀ (s : Shared) (H : Hp) (C : Addr) (cl : List (PySem.Str × Addr)) (fp : List Addr), PE (X.blk s H scope (compEnvC scope cl C X.env) fp) elt te) (hs : ∀ x, foldedSetIterable iter X.env x = pure x := by intro _; rfl) :
    PE X (.SetComp elt [⟨tg, iter, ifs, 0⟩] scope pos) (tSet X.prog X.w wi g tt te (own.map (·.2))) := by
  refine ⟨fun pins s σ H Q I h => ?_⟩
  have hfree : ∀ y ∈ scope.names, y.2 = .free → ∃ c, X.env.cells.lookup y.1 = some c := fun y hy e => (ok.free y hy e).elim (fun k => I.ok.has _ (.inl k)) fun k => I.ok.has _ (.inr k)
  rw [PpSet.eval_SetComp]
  refine wpAny_comprehension_free (use := none) rfl hs (closure_ok hfree) ok.kind (fun y hy e => by rw [ok.uniq y hy, e]) (thn (hi.run pins s σ H _ I h) fun xv s1 hx => thn hx fun itv s2 h2 => ?_)
  obtain ⟨it, fp, tn, J, H2, e, I2, T, st2, f2, q⟩ := h2
  subst e
  refine PpSet.newSet_ok (newEnv_comp ?_)
  obtain ⟨W, ⟨m0, w0⟩, hl⟩ := q _ (I2.hok.fresh (Nat.le_refl s2.heap.objs.size))
  have kp : ∀ b o, s2.heap.get? b = some o → (s2.heap.push { cls := .type "set", dict := none, data := .set #[] 0 (.fresh 0 0 (!X.w.params.followText "set-order")) }).get? b = some o := fun b o e => Heap.get?_push_of_some _ e
  refine start_run (s3 := { s2 with heap := s2.heap.push { cls := .type "set", dict := none, data := .set #[] 0 (.fresh 0 0 (!X.w.params.followText "set-order")) } }) hc hN ok
    (I2.laid (t' := s2.toks) kp (Nat.le_refl _) (setK_new (P := X.prog) (w := X.w) (H := upd H2 s2.heap.objs.size (zeroK X.prog X.w s2.heap.objs.size)) zero_new)) (fun b hb => ?_) T (T.keep _ _ _ st2 fun b _ o e => kp b o e) hg ht he w0 hl
  obtain ⟨o, e, _⟩ := T.obj _ _ st2 b hb
  have lt := Heap.lt_size e
  refine ⟨⟨?_, (f2 b hb).2⟩, by rw [Heap.size_push]; exact Nat.lt_succ_of_lt lt⟩
  rw [upd_ne (Nat.ne_of_lt lt)]
  exact (f2 b hb).1
/-- len of such a set -/
theorem call_len_setK : CallR X (.builtin "len") (fun xs H Q => ∃ p S n, xs = [.ref p] ∧ H p = some (SetK X.prog X.w p S n) ∧ Q (.int n) H) := by
  intro pins s σ H xs us Q I r h
  obtain ⟨p, S, n, rfl, hp, q⟩ := h
  obtain ⟨u, rfl, rx⟩ := vals1 r
  cases rx
  obtain ⟨o, es, ep, t, ho, hex, hd, _, _, hb, hf, hn⟩ := setK_get I hp
  exact call_len_set ho hex hd hf (Int.lt_trans (Int.ofNat_lt.mpr hb) (by decide)) ⟨.int n, H, I.tok _, ⟨_, by rw [hn]⟩, q⟩
end
/-- over a walk -/
theorem set_it {J : It} {n : Nat} {G : Hp → Prop} {Y : Nat → Hp → V → Hp → Prop} (wk : Walk J n G Y) {P : Program} {w : World} {g : TG} {tt : TT} {te : TE} {vs : List Nat} {σ : L2.St} {H1 : Hp} {D : Addr} {Qd : Hp → Prop} (Pv : Nat → Hp → Prop) (h0 : Pv 0 (upd H1 D (zeroK P w D))) (hG : ∀ i H, i ≤ n → Pv i H → G H)
    (hs : ∀ i x H H', i < n → Pv i H → Y i H x H' → turnT P w D g tt te vs σ (Pv (i + 1)) x H') (hd : ∀ H, Pv n H → Qd H) :
    ∃ W : Nat → Nat → Hp → Prop, (∃ m, W 0 m (upd H1 D (zeroK P w D))) ∧ loopT P w D J g tt te vs σ W Qd := by
  refine ⟨fun i m H => m + i = n ∧ Pv i H, ⟨n, rfl, h0⟩, fun i m H ⟨e, p⟩ => ?_⟩
  have q := hG i H (by omega) p
  match m, e with
  | 0, e =>
    obtain rfl : i = n := by omega
    exact .inl ⟨wk.stops H q, hd H p⟩
  | m + 1, e => exact .inr ⟨wk.goes i H (by omega) q, Pv (i + 1), fun H' p' => ⟨m, Nat.lt_succ_self m, by omega, p'⟩, fun x H' y => hs i x H H' (by omega) p (wk.yields i H x H' (by omega) q y)⟩
/-- {k: v for ..} over a walk -/
theorem dict_it {J : It} {n : Nat} {G : Hp → Prop} {Y : Nat → Hp → V → Hp → Prop} (wk : Walk J n G Y) {g : TG} {tt : TT} {tk tv : TE} {vs : List Nat} {σ : L2.St} {H1 : Hp} {D : Addr} {Qd : Hp → Prop} (Pv : Nat → Hp → Prop) (h0 : Pv 0 (upd H1 D (.dK []))) (hG : ∀ i H, i ≤ n → Pv i H → G H)
    (hs : ∀ i x H H', i < n → Pv i H → Y i H x H' → g x (wipe σ vs) H' fun σ2 H2 => wipe σ2 vs = wipe σ vs ∧ tt σ2 H2 fun b H3 =>
      if b = true then tk σ2 H3 fun y H4 => tv σ2 H4 fun z H5 => ∃ kvs k, y = kV k ∧ H5 D = some (.dK kvs) ∧ kvs.length < sizeLine ∧ Pv (i + 1) (upd H5 D (.dK (putK kvs k z))) else Pv (i + 1) H3) (hd : ∀ H, Pv n H → Qd H) :
    ∃ W : Nat → Nat → Hp → Prop, (∃ m, W 0 m (upd H1 D (.dK []))) ∧ ∀ i m H, W i m H →
      (J.stop i H ∧ Qd H) ∨ (J.go i H ∧ ∃ Nx : Hp → Prop, (∀ H', Nx H' → ∃ m', m' < m ∧ W (i + 1) m' H') ∧ ∀ x H', J.yld i H x H' → g x (wipe σ vs) H' fun σ2 H2 => wipe σ2 vs = wipe σ vs ∧ tt σ2 H2 fun b H3 =>
        if b = true then tk σ2 H3 fun y H4 => tv σ2 H4 fun z H5 => ∃ kvs k, y = kV k ∧ H5 D = some (.dK kvs) ∧ kvs.length < sizeLine ∧ Nx (upd H5 D (.dK (putK kvs k z))) else Nx H3) := by
  refine ⟨fun i m H => m + i = n ∧ Pv i H, ⟨n, rfl, h0⟩, fun i m H ⟨e, p⟩ => ?_⟩
  have q := hG i H (by omega) p
  match m, e with
  | 0, e =>
    obtain rfl : i = n := by omega
    exact .inl ⟨wk.stops H q, hd H p⟩
  | m + 1, e => exact .inr ⟨wk.goes i H (by omega) q, Pv (i + 1), fun H' p' => ⟨m, Nat.lt_succ_self m, by omega, p'⟩, fun x H' y => hs i x H H' (by omega) p (wk.yields i H x H' (by omega) q y)⟩
/-! ### how many unlike ones -/
def nd : List Str → Nat
  | [] => 0
  | x :: xs => if x ∈ xs then nd xs else nd xs + 1
theorem nd_le : ∀ xs : List Str, nd xs ≤ xs.length
  | [] => Nat.le_refl 0
  | x :: xs => by
    have := nd_le xs
    unfold nd
    rw [List.length_cons]
    split <;> omega
theorem nd_iff : ∀ xs : List Str, nd xs < xs.length ↔ ¬ xs.Nodup
  | [] => by simp [nd]
  | x :: xs => by
    have h1 := nd_le xs
    have h2 := nd_iff xs
    unfold nd
    rw [List.length_cons, List.nodup_cons]
    by_cases hx : x ∈ xs
    · rw [if_pos hx]
      exact ⟨fun _ z => z.1 hx, fun _ => by omega⟩
    · rw [if_neg hx]
      constructor
      · intro h z
        exact h2.mp (by omega) z.2
      · intro h
        have : nd xs < xs.length := h2.mpr fun z => h ⟨hx, z⟩
        omega
end SetT
/-! defs with *args and keyword-only parameters, called with keywords; C(*y, k = v), C.m(e, k = v) -/
namespace StK
open PySem PySem.Spec PyProof.Rows L2
open StX
/-- as KwChain, but r is what is left to be done -/
def KwEnd {α : Type} (D : Addr) : List (Str × Value) → Sem α → Sem α → Prop
  | [], t, r => t = r
  | q :: l, t, r => ∃ (β γ : Type) (k1 : Option Value → Sem β) (k2 : β → Sem γ) (k3 : γ → Sem α) (a : β), t = ((nsGet D q.1 >>= k1) >>= k2) >>= k3 ∧ k1 (some q.2) = pure a ∧ KwEnd D l (k2 a >>= k3) r
theorem KwEnd.run {α : Type} {K : PySem.W.Frag} {M : Model} {A : Around} {Ex : Value → Shared → Prop} {Q : α → Shared → Prop} {s : Shared} {D : Addr} (X : K.In s.heap) : ∀ {l : List (Str × Value)} {t r : Sem α}, (∀ q ∈ l, PySem.W.nsIn K D q.1 = some (some q.2)) → KwEnd D l t r → wpAny M A r Q Ex s → wpAny M A t Q Ex s
  | [], t, r, _, e, h => by
    obtain rfl : t = r := e
    exact h
  | q :: l, t, r, hl, e, h => by
    obtain ⟨β, γ, k1, k2, k3, a, e1, e2, e3⟩ := e
    have l1 : PySem.W.Looks M s.heap (nsGet D q.1 >>= k1) a := (PySem.W.looks_nsIn X (hl q (List.mem_cons_self ..))).andThen (PySem.W.Looks.of_pure e2)
    rw [e1, bind_assoc]
    exact wpAny_bind (l1.here (KwEnd.run X (fun p hp => hl p (List.mem_cons_of_mem _ hp)) e3 h))
/-- a promise by positional values and by the values of the keywords ks -/
def FnK (P : Program) (w : World) (K : PySem.W.Frag) (mg : Str → Option Value) (base : Heap) (CX : CXT) (k : Nat) (f : Addr) (ks : List Str) (sp : List V → List V → Hp → VK → XK → Prop) : Prop :=
  ∀ (A : Around) (outer : List Env) (s : Shared) (H : Hp) (us ws : List Value) (vs zs : List V) (Q : VK) (E : XK), Room k A → Env0 P w K mg base A outer s H → Vals vs us → Vals zs ws → zs.length = ks.length → sp vs zs H Q E →
    codeAny (model P w) A (.call (.ref f) ⟨us, ks.zip ws⟩) (CR CX outer P w H s Q E) s
section
variable {CX : CXT} {P : Program} {w : World} {K : PySem.W.Frag} {mg : Str → Option Value} {base : Heap} {k : Nat} {f : Addr} {x qual : Str} {params : Arguments} {body : List Stmt} {scope : Scope} {kws : List (Str × V)} {fd : FuncData} {N ps : List Str} {sp : Sp}
theorem FnK.mono {j : Nat} {ks : List Str} {sp : List V → List V → Hp → VK → XK → Prop} (F : FnK P w K mg base CX j f ks sp) (h : j ≤ k) : FnK P w K mg base CX k f ks sp := fun A outer s H us ws vs zs Q E hr => F A outer s H us ws vs zs Q E (hr.mono h)
theorem FnK.imp {ks : List Str} {sp sp' : List V → List V → Hp → VK → XK → Prop} (F : FnK P w K mg base CX k f ks sp) (h : ∀ vs zs H Q E, sp' vs zs H Q E → sp vs zs H Q E) : FnK P w K mg base CX k f ks sp' := fun A outer s H us ws vs zs Q E hr e0 r rz hl hs => F A outer s H us ws vs zs Q E hr e0 r rz hl (h _ _ _ _ _ hs)
/-- what a def with *v is promised of: the values ahead, a new tuple of the rest -/
def spStarK (n : Nat) (gV : List V → List V → List V) (sp : Sp) : List V → List V → Hp → VK → XK → Prop := fun vs zs H Q E => ∃ ws rest, vs = ws ++ rest ∧ ws.length = n ∧ rest.length ≤ sizeLine ∧ ∀ p, H p = Option.none → sp (gV ws zs ++ [V.ref p]) (upd H p (.tup rest)) Q E
/-- def f(a, .., *v, k = d, ..): n positional values ahead, keywords ks, ms: the keyword-only parameters that lack -/
theorem fn_starK {pv : Str} (F : FunD K x qual params body scope [] kws f fd) (S : FnScope N (ps ++ [pv]) scope) (hCX : CXUp CX) (n : Nat) (ks : List Str) (ms : List (Str × V)) (g : {α : Type} → List α → List α → List α → List α) (hk : kws ≠ []) (hms : ∀ q ∈ ms, q ∈ kws)
    (hrel : ∀ {vs mz zs : List V} {us mv ws : List Value}, Vals vs us → Vals mz mv → Vals zs ws → Vals (g vs mz zs) (g us mv ws))
    (hgl : ∀ (us mv ws : List Value), us.length = n → mv.length = ms.length → ws.length = ks.length → (g us mv ws).length = ps.length)
    (hb : ∀ (D : Addr) (doc pm : Value) (an : Option Addr) (cdv ct : Value) (us rest mv ws : List Value), us.length = n → mv.length = ms.length → ws.length = ks.length →
      KwEnd D ((ms.map (·.1)).zip mv) (bindArgs (PySem.W.fnOf x qual params body scope .none (.ref D) doc pm an cdv ct) ⟨us ++ rest, ks.zip ws⟩) (newTuple rest >>= fun t => pure (ps.zip (g us mv ws) ++ [(pv, t)])))
    (hbody : ∀ (cdv : Value) (A : Around) (outer : List Env) (s : Shared) (H : Hp) (vs : List V) (Q : VK) (E : XK), Room k (A.deeper (envOfC qual scope s.heap.objs.size f cdv)) → sp vs H Q E →
      ∃ t, PSs (cxOf CX P w K mg base N qual scope f cdv A outer s H E) body t ∧ t { nx := fun _ H' => Q .non H', rt := Q } (start N vs) H) :
    FnK P w K mg base CX (k + 1) f ks (spStarK n (fun vs zs => g vs (ms.map (·.2)) zs) sp) := by
  obtain ⟨oc, od, dV, kV, doc, pm, an, cdv, ct, osl, rfl, lk, hcd, hD, hK⟩ := F.ex
  rcases hD with ⟨_, rfl⟩ | ⟨e, _⟩
  case inr => exact absurd rfl e
  rcases hK with e | ⟨D, rfl, hq⟩
  · exact absurd e hk
  obtain ⟨mv, hl, rk, hks⟩ := kwd_vals (ms := ms) fun q hm => hq q (hms q hm)
  intro A outer s H us ws vs zs Q E hr e0 r rz hzl hsp
  obtain ⟨v1, rest, ev, hl1, hz, hsp⟩ := hsp
  subst ev
  obtain ⟨u1, u2, eu, r1, r2⟩ := vals_split r
  subst eu
  have hn : H s.heap.objs.size = Option.none := e0.hok.fresh (Nat.le_refl _)
  have l1 : u1.length = n := by rw [← r1.length]; exact hl1
  have l2 : u2.length ≤ sizeLine := by rw [← r2.length]; exact hz
  have l3 : ws.length = ks.length := by rw [← rz.length]; exact hzl
  have gl := hgl u1 mv ws l1 hl l3
  have gr := hrel r1 rk rz
  refine run_bnd lk hcd S hr e0 (G := fun xs H2 => ∃ p, H p = Option.none ∧ xs = g v1 (ms.map (·.2)) zs ++ [V.ref p] ∧ H2 = upd H p (.tup rest)) (fun A' Ex Q' h => ?_) fun s2 H2 xs ⟨p, hp, ex, eH⟩ hr' => ?_
  · refine KwEnd.run (e0.mod.kin.keeps fun b o e => (e0.bs b o e).1) hks (hb D doc pm an cdv ct u1 u2 mv ws l1 hl l3) ?_
    refine wpAny_bind (wpAny_newTuple (wpAny_pure ?_) l2)
    have new : ObjOk P w (upd H s.heap.objs.size (.tup rest)) (s.heap.push ({ cls := .type "tuple", data := .seq u2.toArray } : Obj)) s.heap.objs.size (.tup rest) := ⟨hz, u2, r2, ⟨_, Heap.get?_push_size _ rfl, rfl, _, rfl⟩⟩
    have un := un_laid (fs := frs outer) (s := s) (o := ({ cls := .type "tuple", data := .seq u2.toArray } : Obj)) (u := .tup rest) hn
    have z := h _ _ (g v1 (ms.map (·.2)) zs ++ [V.ref s.heap.objs.size]) (g u1 mv ws ++ [Value.ref s.heap.objs.size]) (env0_laid e0 new) un rfl (fun e s' => hCX outer s H _ _ E e s' un (fun b o q => Heap.get?_push_of_some _ q) rfl) (gr.append (.cons rfl .nil))
      (by rw [List.length_append, List.length_append, gr.length, gl] <;> rfl) ⟨_, hn, rfl, rfl⟩
    rw [List.zip_append gl.symm] at z
    exact z
  · subst ex eH
    exact hbody cdv A outer s2 _ _ Q E hr' (hsp p hp)
end
section
variable {CX : CXT} {P : Program} {w : World} {K : PySem.W.Frag} {mg : Str → Option Value} {base : Heap} {k n : Nat} {f : Addr} {fd : FuncData} {ps ks : List Str} {sp : Sp} {g : List Value → List Value → List Value} {gV : List V → List V → List V}
/-- a promise with its binding, as a promise by keywords -/
theorem fnK_of (F : FnOk P w K mg base CX k f fd ps sp) (hb : KBn K fd ps n ks g gV) : FnK P w K mg base CX k f ks (fun vs zs H Q E => vs.length = n ∧ sp (gV vs zs) H Q E) := fun A outer s H us ws vs zs Q E hr e0 r rz hl hs =>
  F.run A outer s H ⟨us, ks.zip ws⟩ (g us ws) (gV vs zs) Q E hr e0 (hb.to s us ws (e0.mod.kin.keeps fun b o e => (e0.bs b o e).1) (r.length.symm.trans hs.1) (rz.length.symm.trans hl)) (hb.rel r rz) hs.2
end
/-! ### the call's node -/
section
variable {M : Model} {A : Around} {E : Value → Shared → Prop} {s : Shared}
theorem sk_lone {f : Value} {x : Sem Value} {pos : Pos} {keywords : List (Option Str × Sem Value)} {Q : Args → Shared → Prop} (hall : keywords.all (·.1.isSome) = true)
    (h : wpAny M A x (fun v s₁ => wpAny M A (evalAll (keywords.map (·.2))) (fun ks s₂ => PySem.W.StarOf M A E v (fun vs s₃ => Q ⟨vs, (keywords.filterMap (·.1)).zip ks⟩ s₃) s₂) E s₁) E s) :
    wpAny M A (evalArgs f true [(true, (do let v ← x; standAt pos; pure v))] keywords) Q E s := by
  unfold evalArgs
  first
    | refine wpAny_bind (wpAny_bind (wpAny_mono h (fun v s₁ h₁ => wpAny_bind (wpAny_standAt (wpAny_pure ?_))) fun _ _ x => x))
    | refine wpAny_bind (wpAny_bind (wpAny_bind (wpAny_mono h (fun v s₁ h₁ => wpAny_bind (wpAny_standAt (wpAny_pure (wpAny_pure ?_)))) fun _ _ x => x)))
  refine wpAny_holding ?_
  simp only [hall, if_true]
  refine wpAny_bind (wpAny_mono h₁ (fun ks s₂ h₂ => ?_) fun _ _ x => x)
  unfold PySem.W.StarOf at h₂
  refine wpAny_bind ?_
  refine wpAny_bind (wpAny_mono h₂ (fun b s₃ h₃ => ?_) fun _ _ x => x)
  obtain ⟨rfl, h₃⟩ := h₃
  have z := wpAny_holding (vs := (((keywords.filterMap (·.1)).zip ks).map (·.2))) (wpAny_mono h₃ (fun vs s₄ h₄ => h₄) fun _ _ x => x)
  try simp only [Bool.false_eq_true, if_false]
  first
    | exact wpAny_mono z (fun vs s₄ h₄ => wpAny_pure h₄) fun _ _ x => x
    | exact wpAny_bind (wpAny_pure (wpAny_mono z (fun vs s₄ h₄ => wpAny_pure h₄) fun _ _ x => x))
theorem sk_call {f : Value} {first : List Value} {pos : Pos} {Q : Value → Shared → Prop} {P : Heap → Prop} {args : List (Bool × Sem Value)} {kws : List (Option Str × Sem Value)} (hst : args.any (·.1) = true)
    (hk : ∀ h, P h → ∃ k, (k = Keeper.frame ∨ k = Keeper.machine ∨ k = Keeper.boundFrame) ∧ PySem.W.Looks M h (keeperOf f) k)
    (h : wpAny M A (evalArgs f true args kws) (fun a s₁ => P s₁.heap ∧ wpAny M A (call f (first ++ a.pos) a.kw) Q E s₁) E s) : wpAny M A (callWith pos f first args kws) Q E s := by
  unfold callWith
  refine wpAny_bind (wpAny_holding (wpAny_mono h (fun a s₁ h₁ => wpAny_bind (wpAny_standAt ?_)) fun _ _ x => x))
  obtain ⟨k, hk', L⟩ := hk _ h₁.1
  simp only [hst, Bool.true_or]
  refine wpAny_bind (L.here ?_)
  have tail : ∀ {t : Sem Value}, wpAny M A t Q E s₁ → wpAny M A (t >>= fun r => holding [r] point >>= fun _ => pure r) Q E s₁ :=
    fun ht => wpAny_bind (wpAny_mono ht (fun r s₂ hr => wpAny_bind (wpAny_holding (wpAny_point (wpAny_pure hr)))) fun _ _ x => x)
  have marked (mk : Value) : wpAny M A (callMarked mk f (first ++ a.pos) a.kw) Q E s₁ := by unfold callMarked; exact Calls.wpAny_keep h₁.2
  rcases hk' with rfl | rfl | rfl <;> dsimp only <;> first | exact tail (marked _) | exact tail (wpAny_operating h₁.2)
end
/-! ### making -/
/-- what the making of a C asks: behind the values t gives and the keywords' values, a new instance and its dict -/
def spMk (C : Addr) (sp : List V → List V → Hp → VK → XK → Prop) (E : XK) (vs zs : List V) (H : Hp) (Q : VK) : Prop := ∀ x dx, H x = Option.none → H dx = Option.none → dx ≠ x →
  sp (V.ref x :: vs) zs (upd (upd H dx (.own x)) x (.ins C dx [])) (fun v H2 => v = .non ∧ Q (.ref x) H2) E
section
variable {X : Cx} {CX : CXT} {k n i : Nat} {f C : Addr} {ks : List Str} {sp : List V → List V → Hp → VK → XK → Prop} {E : XK} {x m : Str} {p pos sp_ apos : Pos} {e o : Expr} {es : List Expr} {kws : List Keyword} {te ta : TE} {t tk : TA} {mc : Value} {q g : Addr}
theorem run_makeK {pins : List (Addr × Obj)} {σ : L2.St} {H : Hp} {s : Shared} {Q : VK} {us ws : List Value} {vs zs : List V} (M : Mk X.K C f) (F : FnK X.prog X.w X.K X.mg X.base CX k f ks sp) (hr : Room (k + 1) X.A) (hx : Passes CX X E) (I : Inv X pins σ H s) (r : Vals vs us) (rz : Vals zs ws) (hl : zs.length = ks.length)
    (h : spMk C sp E vs zs H Q) : wpAny (model X.prog X.w) X.A (call (.ref C) us (ks.zip ws)) (EP X pins σ Q) X.xe s := by
  have hq := h (s.heap.objs.size + 1) s.heap.objs.size (I.hok.fresh (Nat.le_succ _)) (I.hok.fresh (Nat.le_refl _)) (Nat.ne_of_lt (Nat.lt_succ_self _))
  have I2 := Inv.made (C := C) I
  have r2 : Vals (V.ref (s.heap.objs.size + 1) :: vs) (Value.ref (s.heap.objs.size + 1) :: us) := .cons rfl r
  refine wpAny_call (make_map (f := f) I.kIn M.makes M.init (beq_iff_eq.mp M.fn) (codeAny_mono (F _ X.stack _ _ (Value.ref (s.heap.objs.size + 1) :: us) ws _ zs _ E (hr.make C us (ks.zip ws)) (I2.env0.make C us (ks.zip ws)) r2 rz hl hq) fun r s' hq' => ?_))
  cases r with
  | error e => exact hx pins σ _ _ e s' I2 hq'
  | ok fl =>
    cases fl with
    | ret u =>
      obtain ⟨v, H', I3, rv, ev, q3⟩ := I2.after hq'
      subst ev
      exact ⟨rv, ⟨V.ref (s.heap.objs.size + 1), H', I3, rfl, q3⟩⟩
    | next => exact False.elim hq'
    | brk => exact False.elim hq'
    | cont => exact False.elim hq'
/-- C(e, .., k = v, ..), C a name of the module -/
def tMakeS (C : Addr) (m : Nat) (sp : List V → List V → Hp → VK → XK → Prop) (E : XK) (t tk : TA) : TE := fun σ H Q => t σ H fun vs H1 => tk σ H1 fun zs H2 => zs.length = m ∧ spMk C sp E vs zs H2 Q
theorem pe_makeS (M : Mk X.K C f) (F : FnK X.prog X.w X.K X.mg X.base CX k f ks sp) (hr : Room (k + 1) X.A) (hg : Gl X x) (hm : X.mg x = some (.ref C)) (hx : Passes CX X E) (ha : PA X (e :: es) t) (hkw : PK X kws tk)
    (hall : (backToKw pos (keywordEach kws X.env)).all (·.1.isSome) = true := by rfl) (hks : (backToKw pos (keywordEach kws X.env)).filterMap (·.1) = ks := by rfl) (hdb : (x == ("__debug__" : Str)) = false := by decide)
    (he : starEach (e :: es) X.env = (false, eval e X.env) :: starEach es X.env := by rfl) (hpl : ((backTo pos (starEach (e :: es) X.env)).any (·.1) || (backToKw pos (keywordEach kws X.env)).any (·.1.isNone)) = false := by rfl) :
    PE X (.Call (.Name x p) (e :: es) kws pos) (tMakeS C ks.length sp E t tk) := by
  refine ⟨fun pins s σ H Q I h => ?_⟩
  refine wpAny_Call_Name_kw (ld_glob I hg hm ?_ hdb)
  refine PySem.W.callWith_KW (h₀ := X.base) I.ok.mod.kin M.kp hall (thn (ha.run pos pins s σ H _ I h) fun us s1 ⟨vs, H1, I1, r, q⟩ => ?_) hpl he
  refine thn (hkw.run pos pins s1 σ H1 _ I1 q) fun ws s2 ⟨zs, H2, I2, rz, l2, q2⟩ => ⟨I2.kIn, ?_⟩
  rw [hks]
  exact run_makeK M F hr hx I2 r rz l2 q2
/-- c(*e, k = v, ..), c a name whose value is the class at C -/
def tMakeT (K : PySem.W.Frag) (C : Addr) (m : Nat) (sp : List V → List V → Hp → VK → XK → Prop) (E : XK) (tf te : TE) (tk : TA) : TE := fun σ H Q => tf σ H fun c H0 => c = .ref C ∧ te σ H0 fun y H1 => tk σ H1 fun zs H2 => zs.length = m ∧ ∃ a xs, y = V.ref a ∧ (SqT K H2 a xs ∨ SqL K H2 a xs) ∧ spMk C sp E xs zs H2 Q
theorem pe_makeT {tf : TE} (M : Mk X.K C f) (F : FnK X.prog X.w X.K X.mg X.base CX k f ks sp) (hr : Room (k + 1) X.A) (hx : Passes CX X E) (hf : PE X (.Name x p) tf) (he : PE X e te) (hkw : PK X kws tk)
    (hall : (backToKw pos (keywordEach kws X.env)).all (·.1.isSome) = true := by rfl) (hks : (backToKw pos (keywordEach kws X.env)).filterMap (·.1) = ks := by rfl)
    (hst : starEach [.Starred e sp_] X.env = [(true, eval e X.env)] := by rfl) :
    PE X (.Call (.Name x p) [.Starred e sp_] kws pos) (tMakeT X.K C ks.length sp E tf te tk) := by
  refine ⟨fun pins s σ H Q I h => ?_⟩
  refine wpAny_Call_Name_kw (thn (hf.run pins s σ H _ I h) fun u s1 ⟨c, H1, I1, rc, ec, q1⟩ => ?_)
  subst ec
  obtain rfl : u = Value.ref C := rc
  rw [hst]
  refine sk_call (P := X.K.In) rfl (PySem.W.keeps_K M.kp) (sk_lone hall (thn (he.run pins s1 σ H1 _ I1 q1) fun v s2 ⟨y, H2, I2, ry, q2⟩ => ?_))
  refine thn (hkw.run pos pins s2 σ H2 _ I2 q2) fun ws s3 ⟨zs, H3, I3, rz, l2, a, xs, ey, hxs, q3⟩ => ?_
  subst ey
  obtain rfl : v = Value.ref a := ry
  refine star_any I3 hxs fun us s4 I4 rv => ⟨I4.kIn, ?_⟩
  rw [hks]
  exact run_makeK M F hr hx I4 rv rz l2 q3
/-! ### classmethods -/
theorem run_cmK {Q : VK} {pins : List (Addr × Obj)} {σ : L2.St} {H : Hp} {s : Shared} {us ws : List Value} {vs zs : List V} (F : FnK X.prog X.w X.K X.mg X.base CX k g ks sp) (hr : Room k X.A) (hx : Passes CX X E) (I : Inv X ((q, PySem.W.methodObj (.ref g) (.ref C)) :: pins) σ H s)
    (r : Vals vs us) (rz : Vals zs ws) (hl : zs.length = ks.length) (h : sp (.ref C :: vs) zs H Q E) : wpAny (model X.prog X.w) X.A (call (.ref q) us (ks.zip ws)) (EP X pins σ Q) X.xe s := by
  have z : wpAny (model X.prog X.w) X.A (call (.ref q) us (ks.zip ws)) (EP X ((q, PySem.W.methodObj (.ref g) (.ref C)) :: pins) σ Q) X.xe s := by
    refine wpAny_call (PySem.W.method_call (ClX.pin_at I) (codeAny_mono (F X.A X.stack s H (.ref C :: us) ws (.ref C :: vs) zs Q E hr I.env0 (.cons rfl r) rz hl h) fun r s' hq => ?_))
    cases r with
    | error e => exact hx _ σ H s e s' I hq
    | ok fl =>
      cases fl with
      | ret u => exact I.after hq
      | next => exact False.elim hq
      | brk => exact False.elim hq
      | cont => exact False.elim hq
  exact thn z fun _ _ y => ClX.unpinE y
/-- C.m(e, .., k = v, ..), m a classmethod of C -/
def tCMethK (C : Addr) (m : Nat) (sp : List V → List V → Hp → VK → XK → Prop) (E : XK) (ta : TE) (t tk : TA) : TE := fun σ H Q => ta σ H fun x H1 => x = .ref C ∧ t σ H1 fun vs H2 => tk σ H2 fun zs H3 => zs.length = m ∧ sp (.ref C :: vs) zs H3 Q E
theorem pe_cmethK {pl : Sem Bool} (he : PE X o ta) (r : ClX.CRead X.K C mc) (c : ClX.CMet X.K C mc m q g) (F : FnK X.prog X.w X.K X.mg X.base CX k g ks sp) (hr : Room k X.A) (hx : Passes CX X E) (ha : PA X (e :: es) t) (hkw : PK X kws tk)
    (hall : (backToKw pos (keywordEach kws X.env)).all (·.1.isSome) = true := by rfl) (hks : (backToKw pos (keywordEach kws X.env)).filterMap (·.1) = ks := by rfl)
    (hst : starEach (e :: es) X.env = (false, eval e X.env) :: starEach es X.env := by rfl) (hpl : ((backTo pos (starEach (e :: es) X.env)).any (·.1) || (backToKw pos (keywordEach kws X.env)).any (·.1.isNone)) = false := by rfl)
    (ht : eval (.Call (.Attribute o m apos) (e :: es) kws pos) X.env = (do
      let ov ← eval o X.env
      standAt apos.atName
      let (f, first) ← holding [ov] (getMethod ov m pl)
      callWith pos f first (backTo pos (starEach (e :: es) X.env)) (backToKw pos (keywordEach kws X.env))) := by rfl) :
    PE X (.Call (.Attribute o m apos) (e :: es) kws pos) (tCMethK C ks.length sp E ta t tk) := by
  refine ⟨fun pins s σ H Q I h => ?_⟩
  refine PySem.W.methodCall_KW (pl := pl) (thn (he.run pins s σ H _ I h) fun u s1 ⟨x, H1, I1, rx, ex, q1⟩ => ?_) ht
  subst ex
  obtain rfl : u = Value.ref C := rx
  refine ClX.getmethcm_ok I1 r c fun s2 I2 => ?_
  refine PySem.W.callWith_of (P := PySem.W.MethP X.K _ g (.ref C)) hpl (PySem.W.keeps_M c.fi) ?_
  have z := ha.run pos _ s2 σ H1 _ I2 q1
  rw [hst] at z ⊢
  refine evalArgs_kw hall ?_
  refine thn z fun us s3 ⟨vs, H2, I3, rv, q2⟩ => ?_
  refine thn (hkw.run pos _ s3 σ H2 _ I3 q2) fun ws s4 ⟨zs, H3, I4, rz, l2, q3⟩ => ⟨⟨ClX.pin_at I4, I4.kIn⟩, ?_⟩
  rw [hks]
  exact run_cmK F hr hx I4 rv rz l2 q3
end
end StK
namespace Sj
open PySem L2 Sup
open NdefX (NF NScope ncx envF startF nscope_by)
open C8 (pss_cut tCut)
abbrev sIsInt : Stmt := top 11
abbrev sBetw : Stmt := top 12
abbrev sWrong : Stmt := top 20
theorem tyx_same {K : PySem.W.Frag} {H H' : Hp} {x : V} {t : Value} (h : TyX K H x t) (s : Same H H') : TyX K H' x t := by
  cases h with
  | base b =>
    refine .base ?_
    cases b with
    | non => exact .non
    | bl x => exact .bl x
    | int i => exact .int i
    | str x => exact .str x
    | flt x => exact .flt x
    | lst e => exact .lst (s _ _ e)
    | frz e => exact .frz (s _ _ e)
    | tup e => exact .tup (s _ _ e)
    | dK e => exact .dK (s _ _ e)
    | dT e => exact .dT (s _ _ e)
    | ins e c h1 h2 h3 h4 => exact .ins (s _ _ e) c h1 h2 h3 h4
  | byt b => exact .byt b
  | set e => exact .set (s _ _ e)
  | kList e c => exact .kList e c
  | kTuple e c => exact .kTuple e c
  | kDict e c => exact .kDict e c
  | fTuple e => exact .fTuple (s _ _ e)
  | fDict e => exact .fDict (s _ _ e)
/-- the three classes of legs -/
structure Kinds where
  drv : Addr
  lis : Addr
  leg : Addr
/-- isinstance(x, (Driver, Listener)) -/
def IsL (K : PySem.W.Frag) (ks : Kinds) (H : Hp) (x : V) (b : Bool) : Prop := ∃ t, TyX K H x t ∧ PySem.W.kitAny K t [.ref ks.drv, .ref ks.lis] = some b
theorem IsL.same {K : PySem.W.Frag} {ks : Kinds} {H H' : Hp} {x : V} {b : Bool} (h : IsL K ks H x b) (s : Same H H') : IsL K ks H' x b := h.imp fun _ ⟨a, e⟩ => ⟨tyx_same a s, e⟩
/-- a driver or a listener -/
structure LegR where
  a : Addr
  C : Addr
  z : Str
def LegR.ok (ks : Kinds) (H : Hp) (r : LegR) : Prop := (r.C = ks.drv ∨ r.C = ks.lis) ∧ LegAt H r.a r.C r.z
theorem LegR.ok.same {ks : Kinds} {H H' : Hp} {r : LegR} (h : r.ok ks H) (s : Same H H') : r.ok ks H' := ⟨h.1, h.2.same s⟩
def refs (rs : List LegR) : List V := rs.map fun r => .ref r.a
def names (rs : List LegR) : List Str := rs.map (·.z)
/-- an integer from 1 to 3 -/
def TopIs (K : PySem.W.Frag) (H : Hp) (T : V) (b : Bool) : Prop := (∃ i : Int, T = .int i ∧ b = (decide (1 ≤ i) && decide (i ≤ 3))) ∨ ∃ (t : String) (m c : Bool), TyX K H T (.type t) ∧ kitB t "int" = some m ∧ kitB t "bool" = some c ∧ (m && !c) = false ∧ b = false
def RailIs (K : PySem.W.Frag) (H : Hp) (G : V) (b : Bool) : Prop := ∃ t : String, TyX K H G (.type t) ∧ kitB t "bool" = some b
theorem TopIs.same {K : PySem.W.Frag} {H H' : Hp} {T : V} {b : Bool} (h : TopIs K H T b) (s : Same H H') : TopIs K H' T b := h.imp id fun ⟨t, m, c, a, r⟩ => ⟨t, m, c, tyx_same a s, r⟩
theorem RailIs.same {K : PySem.W.Frag} {H H' : Hp} {T : V} {b : Bool} (h : RailIs K H T b) (s : Same H H') : RailIs K H' T b := h.imp fun _ ⟨a, r⟩ => ⟨tyx_same a s, r⟩
def spIsInt (K : PySem.W.Frag) : Sp := fun vs H Q _ => ∃ (x : V) (t : String) (b c : Bool), vs = [x] ∧ TyX K H x (.type t) ∧ kitB t "int" = some b ∧ kitB t "bool" = some c ∧ Q (.bl (b && !c)) H
def spBetw (K : PySem.W.Frag) : Sp := fun vs H Q _ => ∃ (T : V) (b : Bool), vs = [T, .int 1, .int 3] ∧ TopIs K H T b ∧ Q (.bl b) H
section
variable {P : Program} {w : World} {K : PySem.W.Frag} {mg : Str → Option Value} {base : Heap}
theorem scIsInt : FnScope ["value"] ["value"] (defScope sIsInt) := ⟨rfl, rfl, rfl, by decide +kernel, rfl, by decide +kernel, by decide +kernel⟩
theorem scBetw : FnScope ["value", "least", "most"] ["value", "least", "most"] (defScope sBetw) := ⟨rfl, rfl, rfl, by decide +kernel, rfl, by decide +kernel, by decide +kernel⟩
theorem ok_isint {f : Addr} {fd : FuncData} (F : Fun K "is_integer" "is_integer" sIsInt f fd) (mi : mg "isinstance" = none) (mn : mg "int" = none) (mb : mg "bool" = none) : FnOk P w K mg base CX0 1 f fd ["value"] (spIsInt K) := by
  refine F.ok scIsInt (fun vs H Q E h => ?_) (fun cdv A outer s H vs Q E hr h => ?_)
  · obtain ⟨x, t, b, c, rfl, _⟩ := h
    rfl
  · obtain ⟨x, t, b, c, rfl, ht, hb, hc, k⟩ := h
    refine ⟨_, pss_one (ps_ret (pe_and (pe_callB call_isi (by rfl) mi (by decide +kernel) (pa_cons (pv 0) (pa_cons (pe_bltn (by rfl) mn (by decide +kernel) (v := .ty "int") rfl) pa_nil)))
      (pe_one (pe_not (pe_callB call_isi (by rfl) mi (by decide +kernel) (pa_cons (pv 0) (pa_cons (pe_bltn (by rfl) mb (by decide +kernel) (v := .ty "bool") rfl) pa_nil))))))), ?_⟩
    refine ⟨_, rfl, _, _, _, _, b, rfl, .ty _, ht, kit_ty hb, _, rfl, ?_⟩
    cases b with
    | false => exact iteF k
    | true => exact iteT ⟨_, rfl, _, _, _, _, c, rfl, .ty _, ht, kit_ty hc, _, rfl, k⟩
theorem ok_betw {f fI : Addr} {fd fdI : FuncData} (F : Fun K "is_between" "is_between" sBetw f fd) (FI : FnOk P w K mg base CX0 1 fI fdI ["value"] (spIsInt K)) (mI : mg "is_integer" = some (.ref fI)) (kI : PySem.W.keepIn K (.ref fI) = true) (bI : Binds K fdI ["value"] []) :
    FnOk P w K mg base CX0 2 f fd ["value", "least", "most"] (spBetw K) := by
  refine F.ok scBetw (fun vs H Q E h => ?_) (fun cdv A outer s H vs Q E hr h => ?_)
  · obtain ⟨T, b, rfl, _⟩ := h
    rfl
  · obtain ⟨T, b, rfl, ht, k⟩ := h
    refine ⟨_, pss_one (ps_ret (pe_and (pe_call FI hr rfl mI kI bI .nil pass0 (pa_cons (pv 0) pa_nil)) (pe_one (pe_chain op_le op_le (pv 1) (pv 0) (pv 2))))), ?_⟩
    rcases ht with ⟨i, rfl, rfl⟩ | ⟨t, m, c, ht, hm, hc, e, rfl⟩
    · refine ⟨_, rfl, _, _, _, _, rfl, .base (.int i), (by decide +kernel : kitB "int" "int" = some true), (by decide +kernel : kitB "int" "bool" = some false), _, rfl, ?_⟩
      refine iteT ⟨_, rfl, _, rfl, _, _, rfl, rfl, _, rfl, ?_⟩
      by_cases h1 : (1 : Int) ≤ i
      · rw [decide_eq_true h1] at k ⊢
        exact iteT ⟨_, rfl, _, _, rfl, rfl, k⟩
      · rw [decide_eq_false h1] at k ⊢
        exact iteF k
    · refine ⟨_, rfl, _, _, _, _, rfl, ht, hm, hc, _, rfl, ?_⟩
      rw [e]
      exact iteF k
end
end Sj
namespace Sj
open PySem L2 Sup
open NdefX (NF NScope ncx envF startF nscope_by)
open C8 (pss_cut tCut)
/-- the first reason, the legs being right -/
def due (zs : List Str) (tb rb : Bool) : V := if 40 < zs.length then .str "many" else if zs.Nodup then (if tb = false then .str "top" else if rb = false then .str "rails" else .non) else .str "name"
/-- wrong_frame(legs, top, ground, power) -/
def spWrong (K : PySem.W.Frag) (ks : Kinds) : Sp := fun vs H Q _ => ∃ (t : Addr) (xs : List V) (T G R : V) (tb gb pb : Bool), vs = [.ref t, T, G, R] ∧ H t = some (.tup xs) ∧ xs.length ≤ 1000 ∧ TopIs K H T tb ∧ RailIs K H G gb ∧ RailIs K H R pb ∧
  ((∃ bs : List Bool, bs.length = xs.length ∧ bs.all id = false ∧ (∀ (i : Nat) (x : V) (b : Bool), xs[i]? = some x → bs[i]? = some b → IsL K ks H x b) ∧ ∀ H', Same H H' → Q (.str "legs") H') ∨
   ∃ rs : List LegR, xs = refs rs ∧ (∀ r ∈ rs, r.ok ks H) ∧ ∀ H', Same H H' → Q (due (names rs) tb (gb && pb)) H')
/-- what the text gives -/
structure WrT (P : Program) (w : World) (K : PySem.W.Frag) (mg : Str → Option Value) (base : Heap) (ks : Kinds) (CF : Addr) : Prop where
  isi : mg "isinstance" = none
  all : mg "all" = none
  len : mg "len" = none
  bool : mg "bool" = none
  mD : mg "Driver" = some (.ref ks.drv)
  mI : mg "Listener" = some (.ref ks.lis)
  mF : mg "Frame" = some (.ref CF)
  most : ∃ mc u, ClX.CRead K CF mc ∧ ClX.CVal K CF mc "MOST" (.int 40) u
  icD : IsiC K ks.drv
  icI : IsiC K ks.lis
  nD : NoAttr K ks.drv "name"
  nI : NoAttr K ks.lis "name"
  dd : PySem.W.kitAny K (.ref ks.drv) [.ref ks.drv, .ref ks.lis] = some true
  ii : PySem.W.kitAny K (.ref ks.lis) [.ref ks.drv, .ref ks.lis] = some true
  betw : ∃ fB fdB, mg "is_between" = some (.ref fB) ∧ PySem.W.keepIn K (.ref fB) = true ∧ Binds K fdB ["value", "least", "most"] [] ∧ FnOk P w K mg base CX0 2 fB fdB ["value", "least", "most"] (spBetw K)
theorem LegR.ok.isl {P : Program} {w : World} {K : PySem.W.Frag} {mg : Str → Option Value} {base : Heap} {ks : Kinds} {CF : Addr} {H : Hp} {r : LegR} (h : r.ok ks H) (T : WrT P w K mg base ks CF) : IsL K ks H (.ref r.a) true := by
  obtain ⟨hc, hl⟩ := h
  rcases hc with e | e
  · rw [e] at hl
    exact ⟨_, hl.ty T.icD, T.dd⟩
  · rw [e] at hl
    exact ⟨_, hl.ty T.icI, T.ii⟩
/-- the reading of isinstance(leg, (Driver, Listener)) -/
def teIsL (K : PySem.W.Frag) (ks : Kinds) : TE := tCB (rIsiT K) (tCons (tVar 4) (tCons (tTup (tCons (tC (.ref ks.drv)) (tCons (tC (.ref ks.lis)) tNil))) tNil))
def teNm (K : PySem.W.Frag) : TE := tFld K (tVar 4) "name"
theorem isl_rd {K : PySem.W.Frag} {ks : Kinds} {σ : L2.St} {H : Hp} {x : V} {b : Bool} {Q : VK} (hx : σ[4]? = some (some x)) (h : IsL K ks H x b) (k : ∀ H', Same H H' → Q (.bl b) H') : teIsL K ks σ H Q := by
  obtain ⟨t, ty, e⟩ := h
  refine ⟨x, hx, by show 2 ≤ sizeLine; decide, fun p hp => ?_⟩
  have s1 : Same H (upd H p (.tup [.ref ks.drv, .ref ks.lis])) := fun b o e => by rw [upd_ne (ne_of_none e hp)]; exact e
  refine ⟨x, p, [.ref ks.drv, .ref ks.lis], t, [.ref ks.drv, .ref ks.lis], b, rfl, upd_same, .cons (.own _) (.cons (.own _) .nil), tyx_same ty s1, e, k _ s1⟩
abbrev stW (t : Addr) (T G R : V) : L2.St := L2.start ["legs", "top", "ground", "power", "leg"] [.ref t, T, G, R]
theorem isl_walk {K : PySem.W.Frag} {ks : Kinds} {t D : Addr} {T G R : V} {xs : List V} {bs : List Bool} {H : Hp} {Qd : Hp → Prop} (ht : H t = some (.tup xs)) (hD : H D = none) (hl : bs.length = xs.length) (hx : xs.length ≤ 1000)
    (hb : ∀ (i : Nat) (x : V) (b : Bool), xs[i]? = some x → bs[i]? = some b → IsL K ks H x b) (hd : ∀ H', Same H H' → H' D = some (.lst (bs.map V.bl)) → Qd H') :
    ∃ W : Nat → Nat → Hp → Prop, (∃ m, W 0 m (upd H D (.lst []))) ∧ ∀ i m H, W i m H →
      ((Itt K t).stop i H ∧ Qd H) ∨ ((Itt K t).go i H ∧ ∃ Nx : Hp → Prop, (∀ H', Nx H' → ∃ m', m' < m ∧ W (i + 1) m' H') ∧ ∀ x H', (Itt K t).yld i H x H' → gName 4 x (wipe (stW t T G R) [4]) H' fun σ2 H2 => wipe σ2 [4] = wipe (stW t T G R) [4] ∧ tYes σ2 H2 fun b H3 =>
        if b = true then teIsL K ks σ2 H3 fun y H4 => ∃ acc, H4 D = some (.lst acc) ∧ acc.length < sizeLine ∧ Nx (upd H4 D (.lst (acc ++ [y]))) else Nx H3) := by
  have sD : ∀ (o : HO), Same H (upd H D o) := fun o b u e => by rw [upd_ne (ne_of_none e hD)]; exact e
  refine lc_it (walk_tup (K := K) (a := t) (xs := xs)) (fun i H' => Same H H' ∧ H' D = some (.lst ((bs.take i).map V.bl))) ⟨sD _, by rw [upd_same]; rfl⟩ (fun i H' _ p => .inl (.inl (p.1 _ _ ht))) ?_ ?_
  · rintro i x H1 H2 hi ⟨s1, d1⟩ ⟨rfl, hx1⟩
    refine ⟨rfl, ?_⟩
    have hi' : i < bs.length := by omega
    have hb1 : bs[i]? = some bs[i] := List.getElem?_eq_getElem hi'
    unfold tYes
    dsimp only
    rw [if_pos rfl]
    refine isl_rd rfl ((hb i x _ hx1 hb1).same s1) fun H3 s3 => ⟨_, s3 _ _ d1, ?_, ?_, ?_⟩
    · rw [List.length_map, List.length_take]
      exact Nat.lt_of_le_of_lt (Nat.min_le_right _ _) (Nat.lt_of_le_of_lt (show bs.length ≤ 1000 by omega) (by decide))
    · exact fun b o e => by
        rw [upd_ne (ne_of_none e hD)]
        exact s3 _ _ (s1 _ _ e)
    · rw [upd_same, List.take_add_one, hb1, List.map_append]
      rfl
  · rintro H1 ⟨s1, d1⟩
    rw [← hl, List.take_length] at d1
    exact hd H1 s1 d1
/-- the set of the names -/
theorem names_walk {P : Program} {w : World} {K : PySem.W.Frag} {ks : Kinds} {t D : Addr} {T G R : V} {rs : List LegR} {H : Hp} {Qd : Hp → Prop} (ht : H t = some (.tup (refs rs))) (hD : H D = none) (hx : rs.length ≤ 1000) (hr : ∀ r ∈ rs, r.ok ks H)
    (cD : Cls K ks.drv) (cI : Cls K ks.lis) (nD : NoAttr K ks.drv "name") (nI : NoAttr K ks.lis "name") (hd : ∀ H' S, Same H H' → H' D = some (SetK P w D S (SetT.nd (names rs).reverse)) → Qd H') :
    ∃ W : Nat → Nat → Hp → Prop, (∃ m, W 0 m (upd H D (SetT.zeroK P w D))) ∧ SetT.loopT P w D (Itt K t) (gName 4) tYes (teNm K) [4] (stW t T G R) W Qd := by
  have sD : ∀ (o : HO), Same H (upd H D o) := fun o b u e => by rw [upd_ne (ne_of_none e hD)]; exact e
  have hlen : (refs rs).length = rs.length := by unfold refs; rw [List.length_map]
  refine SetT.set_it (walk_tup (K := K) (a := t) (xs := refs rs)) (fun i H' => Same H H' ∧ H' D = some (SetK P w D (fun j : Key => (names (rs.take i)).any fun z => decide (j = Sum.inr z)) (SetT.nd (names (rs.take i)).reverse))) ⟨sD _, ?_⟩ (fun i H' _ p => .inl (.inl (p.1 _ _ ht))) ?_ ?_
  · rw [upd_same]
    rfl
  · rintro i x H1 H2 hi ⟨s1, d1⟩ ⟨rfl, hx1⟩
    rw [hlen] at hi
    have e1 : (refs rs)[i]? = some (.ref rs[i].a) := by unfold refs; rw [List.getElem?_map, List.getElem?_eq_getElem hi]; rfl
    rw [e1] at hx1
    obtain rfl := Option.some.inj hx1
    obtain ⟨hc, dx, ea⟩ := (hr _ (List.getElem_mem hi)).same s1
    have fld : ∃ C, H2 rs[i].a = some (.ins C dx (legF rs[i].z)) ∧ Cls K C ∧ NoAttr K C "name" := by
      refine ⟨_, ea, ?_⟩
      rcases hc with e | e <;> rw [e]
      · exact ⟨cD, nD⟩
      · exact ⟨cI, nI⟩
    obtain ⟨C, ea', cl, nn⟩ := fld
    unfold SetT.turnT tYes
    refine ⟨rfl, ?_⟩
    dsimp only
    rw [if_pos rfl]
    refine ⟨_, rfl, _, C, dx, _, _, rfl, ea', cl, nn, legF_name _, ?_⟩
    have et : names (rs.take (i + 1)) = names (rs.take i) ++ [rs[i].z] := by
      unfold names
      rw [List.take_add_one, List.getElem?_eq_getElem hi, List.map_append]
      rfl
    refine ⟨Sum.inr rs[i].z, _, _, rfl, d1, ?_, ?_, ?_⟩
    · have h1 := SetT.nd_le (names (rs.take i)).reverse
      rw [List.length_reverse] at h1
      have h2 : (names (rs.take i)).length ≤ 1000 := by
        unfold names
        rw [List.length_map, List.length_take]
        omega
      exact Nat.lt_of_le_of_lt (show _ ≤ 1001 by omega) (by decide)
    · exact fun b o e => by
        rw [upd_ne (ne_of_none e hD)]
        exact s1 _ _ e
    · rw [upd_same, et]
      congr 2
      · funext j
        rw [List.any_append]
        simp
      · rw [List.reverse_append]
        show _ = if rs[i].z ∈ (names (rs.take i)).reverse then SetT.nd (names (rs.take i)).reverse else SetT.nd (names (rs.take i)).reverse + 1
        have e9 : ((names (rs.take i)).any fun z => decide ((Sum.inr rs[i].z : Key) = Sum.inr z)) = true ↔ rs[i].z ∈ (names (rs.take i)).reverse := by
          rw [List.any_eq_true, List.mem_reverse]
          constructor
          · rintro ⟨z, hz, e⟩
            have e := of_decide_eq_true e
            injection e with e
            rw [e]
            exact hz
          · exact fun h => ⟨_, h, decide_eq_true rfl⟩
        by_cases h9 : rs[i].z ∈ (names (rs.take i)).reverse
        · rw [if_pos h9, if_pos (e9.mpr h9)]
        · rw [if_neg h9, if_neg fun z => h9 (e9.mp z)]
  · rintro H1 ⟨s1, d1⟩
    rw [hlen, List.take_length] at d1
    exact hd H1 _ s1 d1
section
variable {P : Program} {w : World} {K : PySem.W.Frag} {mg : Str → Option Value} {base : Heap}
theorem scWrong : FnScope ["legs", "top", "ground", "power", "leg"] ["legs", "top", "ground", "power"] (defScope sWrong) := ⟨rfl, rfl, rfl, by decide +kernel, rfl, by decide +kernel, by decide +kernel⟩
theorem ok_wrong {f CF : Addr} {fd : FuncData} {ks : Kinds} (F : Fun K "wrong_frame" "wrong_frame" sWrong f fd) (T : WrT P w K mg base ks CF) : FnOk P w K mg base CX0 3 f fd ["legs", "top", "ground", "power"] (spWrong K ks) := by
  obtain ⟨fB, fdB, mB, kB, bB, GB⟩ := T.betw
  obtain ⟨mc, u, cr, cv⟩ := T.most
  refine F.ok scWrong (fun vs H Q E h => ?_) (fun cdv A outer s H vs Q E hr h => ?_)
  · obtain ⟨t, xs, T, G, R, tb, gb, pb, rfl, _⟩ := h
    rfl
  · obtain ⟨t, xs, TT, G, R, tb, gb, pb, rfl, ht, hlen, hT, hG, hR, h⟩ := h
    refine ⟨_, pss_cons (ps_if (pt_not (pt_val (pe_callB (cr_all rfl) (by rfl) T.all (by decide +kernel) (pa_cons
          (pe_lc (te := teIsL K ks) (own := [("leg", 4)]) (g := gName 4) (tt := tYes) rfl scWrong.nd (pi_tup (pv 0)) (blkOk_by (N := ["legs", "top", "ground", "power", "leg"]) (sc := defScope sWrong) (by decide +kernel))
            (fun _ _ _ _ _ => pg_name (i := 4) scWrong.nd rfl (Or.inl rfl)) (fun _ _ _ _ _ => pts_nil) (fun _ _ _ _ _ => pe_callB call_isiT (by rfl) T.isi (by decide +kernel) (pa_cons (pv 4) (pa_cons (pe_tup (pa_cons (pe_glob rfl T.mD (v := .ref ks.drv) rfl) (pa_cons (pe_glob rfl T.mI (v := .ref ks.lis) rfl) pa_nil))) pa_nil)))) pa_nil))))
        (pss_one (ps_ret pe_str)) pss_nil)
      (pss_cons (ps_if (pt_cmpR op_gt (pe_callB call_len_seq (by rfl) T.len PySem.boot_len (pa_cons (pv 0) pa_nil)) (ClX.pe_cval (pe_glob rfl T.mF (v := .ref CF) rfl)) (nomark _)) (pss_one (ps_ret pe_str)) pss_nil)
      (pss_cons (ps_if (pt_cmpR op_lt (pe_callB SetT.call_len_setK (by rfl) T.len PySem.boot_len (pa_cons
          (SetT.pe_set (te := teNm K) (own := [("leg", 4)]) (g := gName 4) (tt := tYes) rfl scWrong.nd (pi_tup (pv 0)) (blkOk_by (N := ["legs", "top", "ground", "power", "leg"]) (sc := defScope sWrong) (by decide +kernel))
            (fun _ _ _ _ _ => pg_name (i := 4) scWrong.nd rfl (Or.inl rfl)) (fun _ _ _ _ _ => pts_nil) (fun _ _ _ _ _ => pe_fld (pv 4) rfl)) pa_nil)) (pe_callB call_len_seq (by rfl) T.len PySem.boot_len (pa_cons (pv 0) pa_nil)) (nomark _)) (pss_one (ps_ret pe_str)) pss_nil)
      (pss_cons (ps_if (pt_not (pt_val (pe_call GB (hr.mono (by decide)) rfl mB kB bB .nil pass0 (pa_cons (pv 1) (pa_cons pe_int (pa_cons pe_int pa_nil)))))) (pss_one (ps_ret pe_str)) pss_nil)
      (pss_cons (ps_if (PW.pt (pw_or (pt_not (pt_val (pe_callB call_isi (by rfl) T.isi (by decide +kernel) (pa_cons (pv 2) (pa_cons (pe_bltn (by rfl) T.bool (by decide +kernel) (v := .ty "bool") rfl) pa_nil)))))
          (pw_or1 (pt_not (pt_val (pe_callB call_isi (by rfl) T.isi (by decide +kernel) (pa_cons (pv 3) (pa_cons (pe_bltn (by rfl) T.bool (by decide +kernel) (v := .ty "bool") rfl) pa_nil)))))))) (pss_one (ps_ret pe_str)) pss_nil)
      (pss_one (ps_ret pe_non)))))), ?_⟩
    have sz : ∀ H' : Hp, Same H H' → ((SqL K H' t xs ∨ SqT K H' t xs)) := fun H' s1 => .inr (SqT.of (s1 _ _ ht))
    refine ⟨_, rfl, t, rfl, ⟨xs, SqT.of ht⟩, fun D hD => ?_⟩
    rcases h with ⟨bs, hbl, hall, hb, k⟩ | ⟨rs, rfl, hrs, k⟩
    · refine isl_walk ht hD hbl hlen hb fun H1 s1 d1 => ⟨D, bs, rfl, SqL.of d1, _, rfl, ?_⟩
      rw [hall]
      exact iteT (k H1 s1)
    · have hlr : (refs rs).length = rs.length := by unfold refs; rw [List.length_map]
      have hnl : (names rs).length = rs.length := by unfold names; rw [List.length_map]
      refine isl_walk (bs := List.replicate rs.length true) ht hD (by rw [List.length_replicate, hlr]) hlen (fun i x b hx hb => ?_) fun H1 s1 d1 => ⟨D, _, rfl, SqL.of d1, _, rfl, ?_⟩
      · have hi : i < rs.length := by
          have := (List.getElem?_eq_some_iff.mp hx).1
          rw [hlr] at this
          exact this
        have e1 : (refs rs)[i]? = some (.ref rs[i].a) := by unfold refs; rw [List.getElem?_map, List.getElem?_eq_getElem hi]; rfl
        rw [e1] at hx
        obtain rfl := Option.some.inj hx
        have e2 := (List.getElem?_replicate (n := rs.length) (a := true) (i := i)).symm.trans hb
        rw [if_pos hi] at e2
        obtain rfl := Option.some.inj e2
        exact (hrs _ (List.getElem_mem hi)).isl T
      · have ea : (List.replicate rs.length true).all id = true := by
          rw [List.all_eq_true]
          intro b hb
          rw [List.eq_of_mem_replicate hb]
          rfl
        rw [ea]
        refine iteF ⟨_, rfl, t, _, rfl, sz _ s1, CF, mc, _, u, rfl, cr, cv, _, _, rfl, rfl, _, rfl, ?_⟩
        have hdue : ∀ b : V, due (names rs) tb (gb && pb) = b → ∀ H', Same H H' → Q b H' := fun b e H' s => by rw [← e]; exact k H' s
        clear k
        by_cases h40 : 40 < rs.length
        · rw [decide_eq_true (show (40 : Int) < (refs rs).length by rw [hlr]; omega)]
          refine iteT (hdue _ ?_ _ s1)
          unfold due
          rw [hnl, if_pos h40]
        · rw [decide_eq_false (show ¬ (40 : Int) < (refs rs).length by rw [hlr]; omega)]
          refine iteF ⟨_, rfl, t, rfl, ⟨refs rs, SqT.of (s1 _ _ ht)⟩, fun D2 hD2 => ?_⟩
          refine names_walk (s1 _ _ ht) hD2 (by omega) (fun r hr => (hrs r hr).same s1) T.icD.cl T.icI.cl T.nD T.nI fun H2 S s2 d2 => ?_
          have s02 := s1.trans s2
          refine ⟨D2, S, _, rfl, d2, _, rfl, t, _, rfl, sz _ s02, _, _, rfl, rfl, _, rfl, ?_⟩
          have hnd := SetT.nd_iff (names rs).reverse
          rw [List.length_reverse, hnl, (List.reverse_perm (names rs)).nodup_iff] at hnd
          by_cases hno : (names rs).Nodup
          · rw [decide_eq_false (show ¬ ((SetT.nd (names rs).reverse : Int)) < (refs rs).length by rw [hlr]; exact fun z => hnd.mp (by omega) hno)]
            refine iteF ⟨_, rfl, _, _, rfl, hT.same s02, _, rfl, ?_⟩
            have hd2 : due (names rs) tb (gb && pb) = if tb = false then .str "top" else if (gb && pb) = false then .str "rails" else .non := by
              unfold due
              rw [hnl, if_neg h40, if_pos hno]
            rw [hd2] at hdue
            cases tb with
            | false => exact iteT (hdue _ rfl _ s02)
            | true =>
              obtain ⟨tg, tyg, eg⟩ := hG.same s02
              obtain ⟨tp, typ, ep⟩ := hR.same s02
              refine iteF ⟨_, rfl, _, _, _, _, gb, rfl, .ty _, tyg, kit_ty eg, _, rfl, ?_⟩
              cases gb with
              | false => exact iteT (hdue _ rfl _ s02)
              | true =>
                refine iteF ⟨_, rfl, _, _, _, _, pb, rfl, .ty _, typ, kit_ty ep, _, rfl, ?_⟩
                cases pb with
                | false => exact iteT (hdue _ rfl _ s02)
                | true => exact iteF (hdue _ rfl _ s02)
          · rw [decide_eq_true (show ((SetT.nd (names rs).reverse : Int)) < (refs rs).length by rw [hlr]; have := hnd.mpr hno; omega)]
            refine iteT (hdue _ ?_ _ s02)
            unfold due
            rw [hnl, if_neg h40, if_neg hno]
end
end Sj
namespace Sj
open PySem L2 Sup
open NdefX (NF NScope ncx envF startF nscope_by)
open C8 (pss_cut tCut)
abbrev sFrI : Stmt := inClass (top 19) 1
/-- raise InvalidFrame(e), e a short text -/
theorem raise_inv {K : PySem.W.Frag} {CI : Addr} {z : Str} {σ : L2.St} {H H1 : Hp} {te : TE} {Q : XK} (hte : ∀ Q' : VK, Q' (.str z) H1 → te σ H1 Q') (hz : (reprText z).length ≤ 1000) (s1 : Same H H1)
    (k : ∀ d H', errH H H' d "reason" (.str z) → Q (.ref CI) (some d) H') : tMkO CI (spInv K CI) [] (tCons te tNil) σ H1 Q := by
  refine hte _ ⟨by show 1 ≤ 1000; decide, fun a ha => ⟨a, z, rfl, hz, upd_same, fun d hd hda => ⟨rfl, d, [("reason", .str z)], upd_same, ?_, ?_, ?_⟩⟩⟩
  · rw [upd_ne hda, upd_same]
  · rw [upd_ne hda] at hd
    exact hd
  · refine k d _ ⟨?_, upd_same, fun b o e => ?_⟩
    · rw [upd_ne hda] at hd
      exact s1.free hd
    · rw [upd_ne hda] at hd
      have e1 := s1 _ _ e
      have nbd : b ≠ d := ne_of_none e1 hd
      have nba : b ≠ a := ne_of_none e1 ha
      rw [upd_ne nbd, del_ne nba, upd_ne nba, upd_ne nbd, upd_ne nba]
      exact e1
/-- a frame's attributes -/
def frF (D : Addr) (T G R : V) : List (Str × V) := putF "power" R (putF "ground" G (putF "top" T (putF "_legs" (.ref D) [])))
def legRow (r : LegR) : Key × V := (Sum.inr r.z, .ref r.a)
/-- a frame stands at a: its legs, sorted by name -/
def FrAt (H : Hp) (a C : Addr) (ys : List LegR) (T G R : V) : Prop := ∃ dx D, H a = some (.ins C dx (frF D T G R)) ∧ H D = some (.dK (ys.map legRow)) ∧ D ≠ a
theorem FrAt.same {H H' : Hp} {a C : Addr} {ys : List LegR} {T G R : V} (h : FrAt H a C ys T G R) (s : Same H H') : FrAt H' a C ys T G R := by
  obtain ⟨dx, D, h1, h2, h3⟩ := h
  exact ⟨dx, D, s _ _ h1, s _ _ h2, h3⟩
/-- rows put in order -/
def Ordd (rs ys : List LegR) : Prop := ys.Perm rs ∧ PyProof.Rows.sortedS (names ys) = true
/-- Frame.__init__ -/
def spFrI (K : PySem.W.Frag) (ks : Kinds) (CI CF : Addr) : Sp := fun vs H Q E => ∃ (a dx t : Addr) (xs : List V) (T G R : V) (tb gb pb : Bool), vs = [.ref a, T, G, R, .ref t] ∧ H a = some (.ins CF dx []) ∧ H t = some (.tup xs) ∧ xs.length ≤ 1000 ∧ TopIs K H T tb ∧ RailIs K H G gb ∧ RailIs K H R pb ∧
  ((∃ bs : List Bool, bs.length = xs.length ∧ bs.all id = false ∧ (∀ (i : Nat) (x : V) (b : Bool), xs[i]? = some x → bs[i]? = some b → IsL K ks H x b) ∧ ∀ d H', errH H H' d "reason" (.str "legs") → E (.ref CI) (some d) H') ∨
   ∃ rs : List LegR, xs = refs rs ∧ (∀ r ∈ rs, r.ok ks H) ∧ (∀ z, due (names rs) tb (gb && pb) = .str z → ∀ d H', errH H H' d "reason" (.str z) → E (.ref CI) (some d) H') ∧
     (due (names rs) tb (gb && pb) = .non → ∀ H' ys, Ordd rs ys → FrAt H' a CF ys T G R → But H H' a → Q .non H'))
structure FrT (P : Program) (w : World) (K : PySem.W.Frag) (mg : Str → Option Value) (base : Heap) (ks : Kinds) (CI fI CF : Addr) : Prop where
  wr : WrT P w K mg base ks CF
  sorted : mg "sorted" = none
  mI : mg "InvalidFrame" = some (.ref CI)
  ex : ExT P K mg CI "reason"
  iC : PySem.W.findIn K (.ref CI) "__init__" = some (some (.ref fI))
  tI : PySem.W.typeIn K (.ref fI) = some (.type "function")
  inv : ∃ fdI, Binds K fdI ["self", "reason"] [] ∧ FnOk P w K mg base CX0 1 fI fdI ["self", "reason"] (spInv K CI)
  wrong : ∃ f fd, mg "wrong_frame" = some (.ref f) ∧ PySem.W.keepIn K (.ref f) = true ∧ Binds K fd ["legs", "top", "ground", "power"] [] ∧ FnOk P w K mg base CX0 3 f fd ["legs", "top", "ground", "power"] (spWrong K ks)
  cl : Cls K CF
  nL : NoAttr K CF "_legs"
  nT : NoAttr K CF "top"
  nG : NoAttr K CF "ground"
  nP : NoAttr K CF "power"
theorem due_str {zs : List Str} {tb rb : Bool} {z : Str} (h : due zs tb rb = .str z) : (reprText z).length ≤ 1000 := by
  unfold due at h
  have hh : z = "many" ∨ z = "top" ∨ z = "rails" ∨ z = "name" := by
    split at h
    · exact .inl (V.str.inj h).symm
    · split at h
      · split at h
        · exact .inr (.inl (V.str.inj h).symm)
        · split at h
          · exact .inr (.inr (.inl (V.str.inj h).symm))
          · cases h
      · exact .inr (.inr (.inr (V.str.inj h).symm))
  rcases hh with rfl | rfl | rfl | rfl <;> decide +kernel
theorem due_cases (zs : List Str) (tb rb : Bool) : due zs tb rb = .non ∨ ∃ z, due zs tb rb = .str z := by
  unfold due
  split
  · exact .inr ⟨_, rfl⟩
  · split
    · split
      · exact .inr ⟨_, rfl⟩
      · split
        · exact .inr ⟨_, rfl⟩
        · exact .inl rfl
    · exact .inr ⟨_, rfl⟩
theorem due_non {zs : List Str} {tb rb : Bool} (h : due zs tb rb = .non) : zs.length ≤ 40 ∧ zs.Nodup := by
  unfold due at h
  split at h
  · cases h
  · split at h
    · rename_i h1 h2
      exact ⟨by omega, h2⟩
    · cases h
theorem perm_rows : ∀ (ys : List Str) (rs : List LegR), ys.Perm (names rs) → ∃ qs : List LegR, qs.Perm rs ∧ names qs = ys
  | [], rs, h => by
    have e := h.length_eq
    unfold names at e
    rw [List.length_map] at e
    obtain rfl : rs = [] := List.length_eq_zero_iff.mp e.symm
    exact ⟨[], .refl _, rfl⟩
  | y :: ys, rs, h => by
    have hy : y ∈ names rs := h.mem_iff.mp List.mem_cons_self
    obtain ⟨r, hr, e⟩ := List.mem_map.mp hy
    obtain ⟨l1, l2, rfl⟩ := List.append_of_mem hr
    have p1 : (l1 ++ r :: l2).Perm (r :: (l1 ++ l2)) := List.perm_middle
    have h2 : (y :: ys).Perm (y :: names (l1 ++ l2)) := by
      have q := h.trans (p1.map fun r : LegR => r.z)
      rw [List.map_cons, e] at q
      exact q
    obtain ⟨qs, hq, en⟩ := perm_rows ys (l1 ++ l2) h2.cons_inv
    refine ⟨r :: qs, (List.Perm.cons r hq).trans p1.symm, ?_⟩
    show r.z :: names qs = _
    rw [en, e]
theorem valV_rows : ∀ (rs : List LegR) (r : LegR), (names rs).Nodup → r ∈ rs → valV (rs.map legRow) (Sum.inr r.z) = some (.ref r.a)
  | q :: rs, r, hn, hr => by
    unfold names at hn
    rw [List.map_cons, List.nodup_cons] at hn
    rcases List.mem_cons.mp hr with rfl | hr
    · exact valV_pos rfl
    · have ne : ¬ (legRow q).1 = Sum.inr r.z := fun z => by
        injection z with z
        exact hn.1 (List.mem_map.mpr ⟨r, hr, z.symm⟩)
      rw [List.map_cons, valV_neg ne]
      exact valV_rows rs r hn.2 hr
theorem valV_out : ∀ (rs : List LegR) (z : Str), z ∉ names rs → valV (rs.map legRow) (Sum.inr z) = none
  | [], _, _ => rfl
  | q :: rs, z, h => by
    have ne : ¬ (legRow q).1 = Sum.inr z := fun e => by
      injection e with e
      exact h (List.mem_map.mpr ⟨q, List.mem_cons_self, e⟩)
    rw [List.map_cons, valV_neg ne]
    exact valV_out rs z fun hz => h (List.mem_cons_of_mem _ hz)
end Sj
namespace Sj
open PySem L2 Sup
open NdefX (NF NScope ncx envF startF nscope_by)
open C8 (pss_cut tCut)
abbrev nFr : List Str := ["self", "top", "ground", "power", "legs", "reason", "by_name", "leg", "name"]
theorem scFrI : FnScope nFr ["self", "top", "ground", "power", "legs"] (defScope sFrI) := ⟨rfl, rfl, rfl, by decide +kernel, rfl, by decide +kernel, by decide +kernel⟩
def teNm7 (K : PySem.W.Frag) : TE := tFld K (tVar 7) "name"
def teGet : TE := tDGet (tVar 6) (tVar 8)
section
variable {P : Program} {w : World} {K : PySem.W.Frag} {mg : Str → Option Value} {base : Heap}
theorem body_frI {CI fI CF f : Addr} {ks : Kinds} (T : FrT P w K mg base ks CI fI CF) (cdv : Value) (A : Around) (outer : List Env) (s : Shared) (H : Hp) (vs : List V) (Q : VK) (E : XK)
    (hr : Room 3 (A.deeper (PyProof.Rows.envOfC "Frame.__init__" (defScope sFrI) s.heap.objs.size f cdv))) (h : spFrI K ks CI CF vs H Q E) :
    ∃ t, PSs (cxOf (L2.CX P w) P w K mg base nFr "Frame.__init__" (defScope sFrI) f cdv A outer s H E) (defBody sFrI) t ∧ t { nx := fun _ H' => Q .non H', rt := Q } (start nFr vs) H := by
  obtain ⟨fdI, bI, GI⟩ := T.inv
  obtain ⟨fW, fdW, mW, kW, bW, GW⟩ := T.wrong
  have hr1 := hr.mono (show 2 ≤ 3 by decide)
  obtain ⟨a, dx, t, xs, TT, G, R, tb, gb, pb, rfl, ha, ht, hlen, hT, hG, hR, h⟩ := h
  refine ⟨_, pss_cons (ps_set (i := 5) scFrI.nd rfl (Or.inl rfl) (pe_call GW hr rfl mW kW bW .nil pass0 (pa_cons (pv 4) (pa_cons (pv 1) (pa_cons (pv 2) (pa_cons (pv 3) pa_nil))))))
      (pss_cons (ps_if (pt_cmpR op_notN (pv 5) pe_non (nomark _)) (pss_one (ps_raise rfl (takes_of rfl rfl rfl rfl) (pmk_oex T.ex.oex T.iC T.tI GI hr1 bI .nil pass0 rfl T.mI (pa_cons (pv 5) pa_nil)))) pss_nil)
      (pss_cons (ps_set (i := 6) scFrI.nd rfl (Or.inr rfl) (pe_dc (tk := teNm7 K) (tv := tVar 7) (own := [("leg", 7)]) (g := gName 7) (tt := tYes) rfl scFrI.nd (pi_tup (pv 4)) (blkOk_by (N := nFr) (sc := defScope sFrI) (by decide +kernel))
          (fun _ _ _ _ _ => pg_name (i := 7) scFrI.nd rfl (Or.inl rfl)) (fun _ _ _ _ _ => pts_nil) (fun _ _ _ _ _ => pe_fld (pv 7) rfl) (fun _ _ _ _ _ => pv 7)))
      (pss_cons (ps_fld (pv 0) (pe_dc (tk := tVar 8) (tv := teGet) (own := [("name", 8)]) (g := gName 8) (tt := tYes) rfl scFrI.nd (pi_list (pe_callB (call_sortedD rfl) (by rfl) T.sorted (by decide +kernel) (pa_cons (pv 6) pa_nil))) (blkOk_by (N := nFr) (sc := defScope sFrI) (by decide +kernel))
          (fun _ _ _ _ _ => pg_name (i := 8) scFrI.nd rfl (Or.inl rfl)) (fun _ _ _ _ _ => pts_nil) (fun _ _ _ _ _ => pv 8) (fun _ _ _ _ _ => pe_dget (hu_of hr) (pv 6) (pv 8) (fun _ _ => rfl))) rfl)
      (pss_cons (ps_fld (pv 0) (pv 1) rfl) (pss_cons (ps_fld (pv 0) (pv 2) rfl) (pss_one (ps_fld (pv 0) (pv 3) rfl))))))), ?_⟩
  rcases h with ⟨bs, hbl, hall, hb, k⟩ | ⟨rs, rfl, hrs, k1, k2⟩
  · refine ⟨_, rfl, _, rfl, _, rfl, _, rfl, t, xs, TT, G, R, tb, gb, pb, rfl, ht, hlen, hT, hG, hR, .inl ⟨bs, hbl, hall, hb, fun H1 s1 => ?_⟩⟩
    refine ⟨_, rfl, rfl, _, rfl, iteT ?_⟩
    exact raise_inv (fun Q' q => ⟨_, rfl, q⟩) (by decide +kernel) s1 k
  · have hlr : (refs rs).length = rs.length := by unfold refs; rw [List.length_map]
    have hnl : (names rs).length = rs.length := by unfold names; rw [List.length_map]
    refine ⟨_, rfl, _, rfl, _, rfl, _, rfl, t, refs rs, TT, G, R, tb, gb, pb, rfl, ht, hlen, hT, hG, hR, .inr ⟨rs, rfl, hrs, fun H1 s1 => ?_⟩⟩
    rcases due_cases (names rs) tb (gb && pb) with e | ⟨z, e⟩
    · rw [e]
      obtain ⟨h40, hno⟩ := due_non e
      rw [hnl] at h40
      refine ⟨_, rfl, rfl, _, rfl, iteF ⟨_, rfl, t, rfl, ⟨refs rs, SqT.of (s1 _ _ ht)⟩, fun D hD => ?_⟩⟩
      have sD : ∀ (o : HO), Same H1 (upd H1 D o) := fun o b u e => by rw [upd_ne (ne_of_none e hD)]; exact e
      refine SetT.dict_it (walk_tup (K := K) (a := t) (xs := refs rs)) (fun i H' => Same H1 H' ∧ H' D = some (.dK ((rs.take i).map legRow))) ⟨sD _, by rw [upd_same]; rfl⟩ (fun i H' _ p => .inl (.inl (p.1 _ _ (s1 _ _ ht)))) ?_ ?_
      · rintro i x H2 H3 hi ⟨s2, d2⟩ ⟨rfl, hx1⟩
        rw [hlr] at hi
        have e1 : (refs rs)[i]? = some (.ref rs[i].a) := by unfold refs; rw [List.getElem?_map, List.getElem?_eq_getElem hi]; rfl
        rw [e1] at hx1
        obtain rfl := Option.some.inj hx1
        obtain ⟨hc, dy, eb⟩ := (hrs _ (List.getElem_mem hi)).same (s1.trans s2)
        have fld : ∃ C, H3 rs[i].a = some (.ins C dy (legF rs[i].z)) ∧ Cls K C ∧ NoAttr K C "name" := by
          refine ⟨_, eb, ?_⟩
          rcases hc with e | e <;> rw [e]
          · exact ⟨T.wr.icD.cl, T.wr.nD⟩
          · exact ⟨T.wr.icI.cl, T.wr.nI⟩
        obtain ⟨C, eb', cl, nn⟩ := fld
        refine ⟨rfl, ?_⟩
        unfold tYes
        dsimp only
        rw [if_pos rfl]
        have hti : (names (rs.take i)) = (names rs).take i := by unfold names; rw [List.map_take]
        have hout : rs[i].z ∉ names (rs.take i) := by
          have hi' : i < (names rs).length := by rw [hnl]; exact hi
          have ez : (names rs)[i] = rs[i].z := List.getElem_map (fun r : LegR => r.z)
          rw [hti, ← ez]
          intro hm
          obtain ⟨j, hj, ej⟩ := List.getElem_of_mem hm
          rw [List.length_take] at hj
          rw [List.getElem_take] at ej
          have := (List.getElem_inj hno).mp ej
          omega
        refine ⟨_, rfl, _, C, dy, _, _, rfl, eb', cl, nn, legF_name _, _, rfl, _, Sum.inr rs[i].z, rfl, d2, ?_, ?_, ?_⟩
        · rw [List.length_map, List.length_take]
          exact Nat.lt_of_le_of_lt (Nat.min_le_right _ _) (Nat.lt_of_le_of_lt (show rs.length ≤ 1000 by omega) (by decide))
        · exact fun b o e => by
            rw [upd_ne (ne_of_none e hD)]
            exact s2 _ _ e
        · rw [upd_same, putK_new _ (valV_out _ _ hout), List.take_add_one, List.getElem?_eq_getElem hi, List.map_append]
          rfl
      · rintro H2 ⟨s2, d2⟩
        rw [hlr, List.take_length] at d2
        have s02 := s1.trans s2
        clear k1
        refine ⟨_, rfl, D, _, names rs, rfl, .inl d2, ?_, by rw [hnl]; omega, fun ys q hp hs hq => ?_⟩
        · unfold names
          rw [List.map_map, List.map_map]
          rfl
        obtain ⟨qs, hqs, rfl⟩ := perm_rows ys rs hp
        obtain ⟨H3, eH3⟩ : ∃ H3, H3 = upd H2 q (.lst ((names qs).map V.str)) := ⟨_, rfl⟩
        have s3 : Same H2 H3 := fun b o e => by rw [eH3, upd_ne (ne_of_none e hq)]; exact e
        have hq3 : H3 q = some (.lst ((names qs).map V.str)) := by rw [eH3, upd_same]
        rw [← eH3]
        have s03 := s02.trans s3
        have hql : ((names qs).map V.str).length = qs.length := by unfold names; rw [List.length_map, List.length_map]
        have hqr : qs.length = rs.length := hqs.length_eq
        have hnq : (names qs).Nodup := (hqs.map fun r : LegR => r.z).nodup_iff.mpr hno
        refine ⟨q, rfl, ⟨_, SqL.of hq3⟩, fun D2 hD2 => ?_⟩
        have sD2 : ∀ (o : HO), Same H3 (upd H3 D2 o) := fun o b u e => by rw [upd_ne (ne_of_none e hD2)]; exact e
        refine SetT.dict_it (walk_list (K := K) (a := q) (xs := (names qs).map V.str)) (fun i H' => Same H3 H' ∧ H' D2 = some (.dK ((qs.take i).map legRow))) ⟨sD2 _, by rw [upd_same]; rfl⟩ (fun i H' _ p => SqL.of (p.1 _ _ hq3)) ?_ ?_
        · rintro i x H4 H5 hi ⟨s4, d4⟩ ⟨rfl, hx1⟩
          rw [hql] at hi
          have e1 : ((names qs).map V.str)[i]? = some (.str qs[i].z) := by unfold names; rw [List.map_map, List.getElem?_map, List.getElem?_eq_getElem hi]; rfl
          rw [e1] at hx1
          obtain rfl := Option.some.inj hx1
          refine ⟨rfl, ?_⟩
          unfold tYes
          dsimp only
          rw [if_pos rfl]
          have hti : (names (qs.take i)) = (names qs).take i := by unfold names; rw [List.map_take]
          have hout : qs[i].z ∉ names (qs.take i) := by
            have hi' : i < (names qs).length := by unfold names; rw [List.length_map]; exact hi
            have ez : (names qs)[i] = qs[i].z := List.getElem_map (fun r : LegR => r.z)
            rw [hti, ← ez]
            intro hm
            obtain ⟨j, hj, ej⟩ := List.getElem_of_mem hm
            rw [List.length_take] at hj
            rw [List.getElem_take] at ej
            have := (List.getElem_inj hnq).mp ej
            omega
          have hg : DGet H5 D (.str qs[i].z) (some (.ref qs[i].a)) := by
            rw [← valV_rows rs qs[i] hno (hqs.mem_iff.mp (List.getElem_mem hi))]
            exact DGet.k (k := Sum.inr qs[i].z) (s4 _ _ (s3 _ _ d2))
          refine ⟨_, rfl, _, rfl, _, rfl, D, _, rfl, hg, _, Sum.inr qs[i].z, rfl, d4, ?_, ?_, ?_⟩
          · rw [List.length_map, List.length_take]
            exact Nat.lt_of_le_of_lt (Nat.min_le_right _ _) (Nat.lt_of_le_of_lt (show qs.length ≤ 1000 by omega) (by decide))
          · exact fun b o e => by
              rw [upd_ne (ne_of_none e hD2)]
              exact s4 _ _ e
          · rw [upd_same, putK_new _ (valV_out _ _ hout), List.take_add_one, List.getElem?_eq_getElem hi, List.map_append]
            rfl
        · rintro H4 ⟨s4, d4⟩
          rw [hql, List.take_length] at d4
          have s04 := s03.trans s4
          have ha4 := s04 _ _ ha
          have nDa : D2 ≠ a := fun z => by rw [z] at hD2; rw [s03 _ _ ha] at hD2; cases hD2
          refine ⟨_, rfl, a, CF, dx, [], rfl, ha4, T.cl, T.nL, by show 0 < 1000; decide, ?_⟩
          refine ⟨_, rfl, _, rfl, a, CF, dx, _, rfl, upd_same, T.cl, T.nT, by show 1 < 1000; decide, ?_⟩
          refine ⟨_, rfl, _, rfl, a, CF, dx, _, rfl, upd_same, T.cl, T.nG, by show 2 < 1000; decide, ?_⟩
          refine ⟨_, rfl, _, rfl, a, CF, dx, _, rfl, upd_same, T.cl, T.nP, by show 3 < 1000; decide, ?_⟩
          refine k2 e _ qs ⟨hqs, hs⟩ ⟨dx, D2, upd_same, ?_, nDa⟩ fun b o hb eb => ?_
          · rw [upd_ne nDa, upd_ne nDa, upd_ne nDa, upd_ne nDa]
            exact d4
          · rw [upd_ne hb, upd_ne hb, upd_ne hb, upd_ne hb]
            exact s04 _ _ eb
    · rw [e]
      refine ⟨_, rfl, rfl, _, rfl, iteT ?_⟩
      exact raise_inv (fun Q' q => ⟨_, rfl, q⟩) (due_str e) s1 (k1 z e)
end
end Sj
namespace Sj
open PySem L2 Sup StK
open NdefX (NF NScope ncx envF startF nscope_by)
open C8 (pss_cut tCut)
abbrev sOf : Stmt := inClass (top 19) 2
def kwsF : List (Str × V) := [("top", .int 1), ("ground", .bl false), ("power", .bl false)]
abbrev ksB : List Str := ["top", "ground", "power"]
theorem errH.of {H H1 H' : Hp} {d : Addr} {fld : Str} {v : V} (h : errH H1 H' d fld v) (s : Same H H1) : errH H H' d fld v := ⟨s.free h.1, h.2.1, s.trans h.2.2⟩
section
variable {P : Program} {w : World} {K : PySem.W.Frag} {mg : Str → Option Value} {base : Heap}
theorem fr_kwB {CI fI CF f : Addr} {fd : FuncData} {ks : Kinds} (F : FunD K "__init__" "Frame.__init__" (defArgs sFrI) (defBody sFrI) (defScope sFrI) [] kwsF f fd) (T : FrT P w K mg base ks CI fI CF) :
    FnK P w K mg base (L2.CX P w) 4 f ksB (spStarK 1 (fun vs zs => vs ++ zs) (spFrI K ks CI CF)) :=
  fn_starK (ps := ["self", "top", "ground", "power"]) (pv := "legs") F scFrI StX.cxUp 1 ksB [] (fun us mv ws => us ++ ws) (by decide) (fun q h => nomatch h) (fun r1 _ r3 => r1.append r3)
    (fun us mv ws h1 _ h3 => by rw [List.length_append, h1, h3] <;> rfl)
    (fun D doc pm an cdv ct us rest mv ws h1 h2 h3 => match us, rest, mv, ws, h1, h2, h3 with
      | [a], [], [], [x, y, z], _, _, _ => rfl
      | [a], r :: rs, [], [x, y, z], _, _, _ => rfl)
    (fun cdv A outer s H vs Q E hr h => body_frI T cdv A outer s H vs Q E hr h)
end
end Sj
namespace Sj
open PySem L2 Sup StK
open NdefX (NF NScope ncx envF startF nscope_by)
open C8 (pss_cut tCut)
/-- what is asked of legs xs, with top, rails: the outcomes of the making of a frame, from H on -/
def Outc (K : PySem.W.Frag) (ks : Kinds) (CI CF : Addr) (xs : List V) (T G R : V) (tb rb : Bool) (H : Hp) (Q : VK) (E : XK) : Prop :=
  (∃ bs : List Bool, bs.length = xs.length ∧ bs.all id = false ∧ (∀ (i : Nat) (x : V) (b : Bool), xs[i]? = some x → bs[i]? = some b → IsL K ks H x b) ∧ ∀ d H', errH H H' d "reason" (.str "legs") → E (.ref CI) (some d) H') ∨
   ∃ rs : List LegR, xs = refs rs ∧ (∀ r ∈ rs, r.ok ks H) ∧ (∀ z, due (names rs) tb rb = .str z → ∀ d H', errH H H' d "reason" (.str z) → E (.ref CI) (some d) H') ∧
     (due (names rs) tb rb = .non → ∀ a H' ys, H a = none → Ordd rs ys → FrAt H' a CF ys T G R → Same H H' → Q (.ref a) H')
/-- the making keeps its promise -/
theorem mk_outc {K : PySem.W.Frag} {ks : Kinds} {CI CF : Addr} {xs : List V} {T G R : V} {tb gb pb : Bool} {H0 H : Hp} {Q : VK} {E : XK} {gV : List V → List V → List V} {zs : List V} (hg : ∀ x : Addr, gV [.ref x] zs = [.ref x, T, G, R]) (s0 : Same H0 H) (hlen : xs.length ≤ 1000)
    (hT : TopIs K H0 T tb) (hG : RailIs K H0 G gb) (hR : RailIs K H0 R pb) (o : Outc K ks CI CF xs T G R tb (gb && pb) H0 Q E) : spMk CF (spStarK 1 gV (spFrI K ks CI CF)) E xs zs H Q := by
  intro x dx hx hdx hne
  have s1 : Same H (upd (upd H dx (.own x)) x (.ins CF dx [])) := fun b o e => by
    rw [upd_ne (ne_of_none e hx), upd_ne (ne_of_none e hdx)]
    exact e
  refine ⟨[.ref x], xs, rfl, rfl, Nat.le_trans hlen (by decide), fun p hp => ?_⟩
  obtain ⟨H2, e2⟩ : ∃ H2, H2 = upd (upd (upd H dx (.own x)) x (.ins CF dx [])) p (.tup xs) := ⟨_, rfl⟩
  have hxp : x ≠ p := ne_of_none upd_same hp
  have hx2 : H2 x = some (.ins CF dx []) := by rw [e2, upd_ne hxp, upd_same]
  have hp2 : H2 p = some (.tup xs) := by rw [e2, upd_same]
  have s2 : Same H H2 := fun b o e => by
    rw [e2, upd_ne (ne_of_none (s1 _ _ e) hp)]
    exact s1 _ _ e
  have s02 := s0.trans s2
  rw [hg, ← e2]
  refine ⟨x, dx, p, xs, T, G, R, tb, gb, pb, rfl, hx2, hp2, hlen, hT.same s02, hG.same s02, hR.same s02, ?_⟩
  rcases o with ⟨bs, h1, h2, h3, k⟩ | ⟨rs, h1, h2, k1, k2⟩
  · exact .inl ⟨bs, h1, h2, fun i x b e1 e2 => (h3 i x b e1 e2).same s02, fun d H' e => k d H' (e.of s02)⟩
  · refine .inr ⟨rs, h1, fun r hr => (h2 r hr).same s02, fun z hz d H' e => k1 z hz d H' (e.of s02), fun hd H' ys ho hf hb => ⟨rfl, k2 hd x H' ys (s0.free hx) ho hf fun b o e => ?_⟩⟩
    exact hb b o (ne_of_none e (s0.free hx)) (s02 _ _ e)
/-- Frame.of -/
def spOf (K : PySem.W.Frag) (ks : Kinds) (CI CF : Addr) : Sp := fun vs H Q E => ∃ (x T G R : V) (tb gb pb : Bool), vs = [.ref CF, x, T, G, R] ∧ TopIs K H T tb ∧ RailIs K H G gb ∧ RailIs K H R pb ∧
  ((∃ t, TyX K H x t ∧ PySem.W.kitAny K t [.type "list", .type "tuple"] = some false ∧ ∀ d H', errH H H' d "reason" (.str "legs") → E (.ref CI) (some d) H') ∨
   ∃ (l : Addr) (xs : List V), x = .ref l ∧ (H l = some (.lst xs) ∨ H l = some (.tup xs)) ∧ xs.length ≤ 1000 ∧ Outc K ks CI CF xs T G R tb (gb && pb) H Q E)
structure OfT (P : Program) (w : World) (K : PySem.W.Frag) (mg : Str → Option Value) (base : Heap) (ks : Kinds) (CI fI CF fF : Addr) : Prop where
  isi : mg "isinstance" = none
  list : mg "list" = none
  tuple : mg "tuple" = none
  mI : mg "InvalidFrame" = some (.ref CI)
  ex : ExT P K mg CI "reason"
  iC : PySem.W.findIn K (.ref CI) "__init__" = some (some (.ref fI))
  tI : PySem.W.typeIn K (.ref fI) = some (.type "function")
  inv : ∃ fdI, Binds K fdI ["self", "reason"] [] ∧ FnOk P w K mg base CX0 1 fI fdI ["self", "reason"] (spInv K CI)
  mkc : Mk K CF fF
  kt : PySem.W.kitAny K (.type "list") [.type "list", .type "tuple"] = some true
  kt2 : PySem.W.kitAny K (.type "tuple") [.type "list", .type "tuple"] = some true
section
variable {P : Program} {w : World} {K : PySem.W.Frag} {mg : Str → Option Value} {base : Heap}
theorem scOf : FnScope ["cls", "legs", "top", "ground", "power"] ["cls", "legs", "top", "ground", "power"] (defScope sOf) := ⟨rfl, rfl, rfl, by decide +kernel, rfl, by decide +kernel, by decide +kernel⟩
theorem ok_of {CI fI CF fF f : Addr} {fd : FuncData} {ks : Kinds} (F : FunD K "of" "Frame.of" (defArgs sOf) (defBody sOf) (defScope sOf) [] kwsF f fd) (T : OfT P w K mg base ks CI fI CF fF)
    (GF : FnK P w K mg base (L2.CX P w) 4 fF ksB (spStarK 1 (fun vs zs => vs ++ zs) (spFrI K ks CI CF))) : FnOk P w K mg base (L2.CX P w) 6 f fd ["cls", "legs", "top", "ground", "power"] (spOf K ks CI CF) := by
  obtain ⟨fdI, bI, GI⟩ := T.inv
  refine F.ok scOf (fun vs H Q E h => ?_) (fun cdv A outer s H vs Q E hr h => ?_)
  · obtain ⟨x, T, G, R, tb, gb, pb, rfl, _⟩ := h
    rfl
  · obtain ⟨x, TT, G, R, tb, gb, pb, rfl, hT, hG, hR, h⟩ := h
    refine ⟨_, pss_cons (ps_if (pt_not (pt_val (pe_callB call_isiT (by rfl) T.isi (by decide +kernel) (pa_cons (pv 1) (pa_cons (pe_tup (pa_cons (pe_bltn (by rfl) T.list (by decide +kernel) (v := .ty "list") rfl) (pa_cons (pe_bltn (by rfl) T.tuple (by decide +kernel) (v := .ty "tuple") rfl) pa_nil))) pa_nil)))))
        (pss_one (ps_raise rfl (takes_of rfl rfl rfl rfl) (pmk_oex T.ex.oex T.iC T.tI GI (hr.mono (by decide)) bI .nil pass0 rfl T.mI (pa_cons pe_str pa_nil)))) pss_nil)
      (pss_one (ps_ret (pe_makeT T.mkc GF hr (passes_call (takes_of rfl rfl rfl rfl) fun _ _ _ _ h => h) (pv 0) (pv 1) (pk_cons (pv 2) (pk_cons (pv 3) (pk_cons (pv 4) pk_nil)))))), ?_⟩
    have lay : ∀ (t : Value) (b : Bool) (Q' : VK), TyX K H x t → PySem.W.kitAny K t [.type "list", .type "tuple"] = some b → (∀ H', Same H H' → Q' (.bl b) H') →
        tCB (rIsiT K) (tCons (tVar 1) (tCons (tTup (tCons (tC (.ty "list")) (tCons (tC (.ty "tuple")) tNil))) tNil)) (L2.start ["cls", "legs", "top", "ground", "power"] [.ref CF, x, TT, G, R]) H Q' := by
      intro t b Q' ty e k
      refine ⟨_, rfl, by show 2 ≤ sizeLine; decide, fun p hp => ?_⟩
      have s1 : Same H (upd H p (.tup [.ty "list", .ty "tuple"])) := fun b o e => by rw [upd_ne (ne_of_none e hp)]; exact e
      exact ⟨x, p, [.ty "list", .ty "tuple"], t, [.type "list", .type "tuple"], b, rfl, upd_same, .cons (.ty _) (.cons (.ty _) .nil), tyx_same ty s1, e, k _ s1⟩
    rcases h with ⟨t, ty, e, k⟩ | ⟨l, xs, rfl, hl, hlen, o⟩
    · refine lay t false _ ty e fun H1 s1 => ⟨_, rfl, iteT ?_⟩
      exact raise_inv (fun Q' q => q) (by decide +kernel) s1 k
    · have hty : ∃ t, TyX K H (.ref l) t ∧ PySem.W.kitAny K t [.type "list", .type "tuple"] = some true := by
        rcases hl with h | h
        · exact ⟨_, .base (.lst h), T.kt⟩
        · exact ⟨_, .base (.tup h), T.kt2⟩
      obtain ⟨t, ty, e⟩ := hty
      refine lay t true _ ty e fun H1 s1 => ⟨_, rfl, iteF ?_⟩
      refine ⟨_, rfl, rfl, _, rfl, _, rfl, _, rfl, _, rfl, rfl, l, xs, rfl, ?_, ?_⟩
      · rcases hl with h | h
        · exact .inr (SqL.of (s1 _ _ h))
        · exact .inl (SqT.of (s1 _ _ h))
      · exact mk_outc (fun x => rfl) s1 hlen hT hG hR o
end
end Sj
namespace Sj
open PySem L2 Sup StK
open NdefX (NF NScope ncx envF startF nscope_by)
open C8 (pss_cut tCut)
/-! Frame's own small methods (k03, k05): len, in, legs, names -/
abbrev sFr (i : Nat) : Stmt := inClass (top 19) i
theorem frF_legs (D : Addr) (T G R : V) : (frF D T G R).lookup ("_legs" : Str) = some (.ref D) := by
  unfold frF
  rw [lookup_putF, if_neg (by decide +kernel), lookup_putF, if_neg (by decide +kernel), lookup_putF, if_neg (by decide +kernel), lookup_putF, if_pos rfl]
theorem frF_ground (D : Addr) (T G R : V) : (frF D T G R).lookup ("ground" : Str) = some G := by
  unfold frF
  rw [lookup_putF, if_neg (by decide +kernel), lookup_putF, if_pos rfl]
theorem frF_power (D : Addr) (T G R : V) : (frF D T G R).lookup ("power" : Str) = some R := by
  unfold frF
  rw [lookup_putF, if_pos rfl]
def spFIn (K : PySem.W.Frag) (C : Addr) : Sp := fun vs H Q _ => ∃ (a : Addr) (ys : List LegR) (T G R x : V), vs = [.ref a, x] ∧ FrAt H a C ys T G R ∧
  ((∃ z : Str, x = .str z ∧ Q (.bl (decide (z ∈ names ys))) H) ∨ ∃ t : String, TyX K H x (.type t) ∧ kitB t "str" = some false ∧ Q (.bl false) H)
structure FmT (K : PySem.W.Frag) (mg : Str → Option Value) (C : Addr) : Prop where
  cl : Cls K C
  nL : NoAttr K C "_legs"
  len : mg "len" = none
  isi : mg "isinstance" = none
  str : mg "str" = none
theorem valV_in : ∀ (rs : List LegR) (z : Str), (valV (rs.map legRow) (Sum.inr z)).isSome = decide (z ∈ names rs)
  | [], z => rfl
  | q :: rs, z => by
    by_cases e : (legRow q).1 = Sum.inr z
    · rw [List.map_cons, valV_pos e]
      have ez : q.z = z := Sum.inr.inj e
      rw [decide_eq_true (show z ∈ names (q :: rs) by rw [← ez]; exact List.mem_cons_self)]
      rfl
    · rw [List.map_cons, valV_neg e, valV_in rs z]
      have ez : ¬ z = q.z := fun h => e (by rw [h]; rfl)
      have h2 : z ∈ names (q :: rs) ↔ z ∈ names rs := by
        show z ∈ q.z :: names rs ↔ _
        rw [List.mem_cons]
        exact ⟨fun h => h.resolve_left ez, .inr⟩
      exact Bool.eq_iff_iff.mpr (by rw [decide_eq_true_eq, decide_eq_true_eq]; exact h2.symm)
section
variable {P : Program} {w : World} {K : PySem.W.Frag} {mg : Str → Option Value} {base : Heap}
theorem scFIn : FnScope ["self", "x"] ["self", "x"] (defScope (sFr 9)) := ⟨rfl, rfl, rfl, by decide +kernel, rfl, by decide +kernel, by decide +kernel⟩
theorem ok_fin {f C : Addr} {fd : FuncData} (F : Fun K "__contains__" "Frame.__contains__" (sFr 9) f fd) (T : FmT K mg C) : FnOk P w K mg base CX0 1 f fd ["self", "x"] (spFIn K C) := by
  refine F.ok scFIn (fun vs H Q E h => ?_) (fun cdv A outer s H vs Q E hr h => ?_)
  · obtain ⟨a, ys, _, _, _, x, rfl, _⟩ := h
    rfl
  · obtain ⟨a, ys, TT, G, R, x, rfl, ⟨dx, D, ea, eD, _⟩, k⟩ := h
    refine ⟨_, pss_one (ps_ret (pe_and (pe_callB call_isi (by rfl) T.isi (by decide +kernel) (pa_cons (pv 1) (pa_cons (pe_bltn (by rfl) T.str (by decide +kernel) (v := .ty "str") rfl) pa_nil)))
      (pe_one (pe_cmp (pc_din (hu_of hr) (pv 1) (pe_fld (pv 0) rfl)) (by rfl))))), ?_⟩
    rcases k with ⟨z, rfl, k⟩ | ⟨t, ty, e, k⟩
    · refine ⟨_, rfl, _, _, _, _, true, rfl, .ty _, .base (.str z), kit_ty (by decide +kernel), _, rfl, iteT ?_⟩
      refine ⟨_, rfl, _, rfl, a, C, dx, _, _, rfl, ea, T.cl, T.nL, frF_legs _ _ _ _, D, _, rfl, DGet.k (k := Sum.inr z) eD, ?_⟩
      rw [valV_in]
      exact k
    · exact ⟨_, rfl, _, _, _, _, false, rfl, .ty _, ty, kit_ty e, _, rfl, iteF k⟩
end
end Sj
/-! == of two dicts whose values are instances with an __eq__ of their own -/
namespace Own
open PySem PySem.Spec PyProof.Rows L2 Sup
end Own
/-! Defs of which more is known: that nothing is being shown around them (a repr of a list asks it). -/
namespace Grd
open PySem PySem.Spec PyProof.Rows L2
/-- as FnOk, called where nothing is being shown -/
structure FnG (P : Program) (w : World) (K : PySem.W.Frag) (mg : Str → Option Value) (base : Heap) (CX : CXT) (k : Nat) (f : Addr) (fd : FuncData) (ps : List Str) (sp : Sp) : Prop where
  len : ∀ vs H Q E, sp vs H Q E → vs.length = ps.length
  run : ∀ (A : Around) (outer : List Env) (s : Shared) (H : Hp) (args : Args) (us : List Value) (vs : List V) (Q : VK) (E : XK),
    A.guards = some [] → Room k A → Env0 P w K mg base A outer s H → BindsTo s fd args (ps.zip us) → Vals vs us → sp vs H Q E → codeAny (model P w) A (.call (.ref f) args) (CR CX outer P w H s Q E) s
section
variable {P : Program} {w : World} {K : PySem.W.Frag} {mg : Str → Option Value} {base : Heap} {CX : CXT} {j k : Nat} {f : Addr} {fd : FuncData} {ps : List Str} {sp sp' : Sp}
theorem FnG.of (F : FnOk P w K mg base CX k f fd ps sp) : FnG P w K mg base CX k f fd ps sp := ⟨F.len, fun A outer s H args us vs Q E _ => F.run A outer s H args us vs Q E⟩
theorem FnG.mono (F : FnG P w K mg base CX j f fd ps sp) (h : j ≤ k) : FnG P w K mg base CX k f fd ps sp := ⟨F.len, fun A outer s H args us vs Q E hg hr => F.run A outer s H args us vs Q E hg (hr.mono h)⟩
theorem FnG.imp (F : FnG P w K mg base CX k f fd ps sp) (h : ∀ vs H Q E, sp' vs H Q E → sp vs H Q E) : FnG P w K mg base CX k f fd ps sp' :=
  ⟨fun vs H Q E q => F.len vs H Q E (h _ _ _ _ q), fun A outer s H args us vs Q E hg hr he hb hv hs => F.run A outer s H args us vs Q E hg hr he hb hv (h _ _ _ _ hs)⟩
end
end Grd
/-! len(o), x in o, o[x] of an instance with such methods of its own; o in (None, "a", (..)) by its __eq__ -/
namespace Own
open PySem PySem.Spec PyProof.Rows L2 Sup Grd
section
variable {X : Cx} {CX : CXT} {pins : List (Addr × Obj)} {σ : L2.St} {H : Hp} {s : Shared} {k : Nat} {C f : Addr} {fd : FuncData} {ps : List Str} {sp : Sp} {E : XK}
/-- x in o, x not in o -/
def rInO (C : Addr) (neg : Bool) (sp : Sp) : R2 := fun x y H Q => ∃ a dx fs, y = .ref a ∧ H a = some (.ins C dx fs) ∧ sp [.ref a, x] H (fun z H' => ∃ b : Bool, z = .bl b ∧ Q (.bl (if neg then !b else b)) H') E0
end
/-! ### o in (None, "a", (..)) -/
/-- None or a tuple -/
inductive OddL (K : PySem.W.Frag) (H : Hp) : V → Prop
  | non : OddL K H .non
  | tup {t : Addr} {xs : List V} : SqT K H t xs → OddL K H (.ref t)
theorem OddL.same {K : PySem.W.Frag} {H H' : Hp} {x : V} (h : OddL K H x) (s : Same H H') : OddL K H' x := by
  cases h with
  | non => exact .non
  | tup q => exact .tup (SqT.ext q s)
end Own
/-! e.f, a property, of an instance of one of some classes -/
namespace Own
open PySem PySem.Spec PyProof.Rows L2 Sup Grd
structure PropN (P : Program) (w : World) (K : PySem.W.Frag) (mg : Str → Option Value) (base : Heap) (n : Nat) (C : Addr) (f : Str) (sp : Sp) : Prop where
  cl : Cls K C
  ex : ∃ (p g : Addr) (fd : FuncData), PropOf K C f p g ∧ FnOk P w K mg base CX0 n g fd ["self"] sp ∧ Binds K fd ["self"] []
def tPropS (S : Addr → Prop) (spP : Addr → Sp) (ta : TE) : TE := fun σ H Q => ta σ H fun x H1 => ∃ a C dx fs, x = .ref a ∧ H1 a = some (.ins C dx fs) ∧ S C ∧ spP C [.ref a] H1 Q E0
theorem pe_propS {X : Cx} {n : Nat} {S : Addr → Prop} {spP : Addr → Sp} {f : Str} {e : Expr} {ta : TE} {pos : Pos} (he : PE X e ta) (T : ∀ C, S C → PropN X.prog X.w X.K X.mg X.base n C f (spP C)) (hr : Room (n + 1) X.A)
    (hab : attributeBase e f X.env (eval e X.env) = eval e X.env := by rfl) : PE X (.Attribute e f pos) (tPropS S spP ta) := by
  refine ⟨fun pins s σ H Q I h => ?_⟩
  refine attr_of hab (thn (he.run pins s σ H _ I h) fun u s1 ⟨x, H1, I1, rx, a, C, dx, fs, ex, ea, hS, q⟩ => ?_)
  subst ex
  obtain rfl : u = Value.ref a := rx
  obtain ⟨cl, p, g, fd, hp, F, hb⟩ := T C hS
  exact getprop_ok I1 ea cl hp F hr hb .nil pass0 q
end Own
/-! tuple(d), tuple(d.values()) of a dict whose keys are ints or texts -/
namespace TupD
open PySem PySem.Spec PyProof.Rows L2
section
variable {prog : Program} {w : World} {A : Around} {E : Value → Shared → Prop} {s : Shared} {T : String} {r d : Addr} {n : Nat} {P : Nat → Value → Prop} {OK : Heap → Prop}
/-- what the new tuple is wanted for -/
abbrev Wants (Q : Value → Shared → Prop) (s : Shared) (P : Nat → Value → Prop) (n : Nat) : Prop := ∀ (h' : Heap) (tk : Nat) (acc : Array Value), (∀ b o, s.heap.get? b = some o → h'.get? b = some o) → ItemsOf P acc n → Q (.ref h'.objs.size) { s with heap := h'.push { cls := .type "tuple", data := .seq acc }, toks := tk }
theorem new_src {Q₁ : Value → Shared → Prop} (hT : T = "dict" ∨ T = "dict_values") (K : PySem.W.KdlSrc prog w T r d n P OK) (hh : A.handled = none) (hok : OK s.heap) (hn : n ≤ sizeLine) (h : Wants Q₁ s P n) :
    codeAny (model prog w) A (.call (.builtin "tuple.__new__") ⟨[.type "tuple", .ref r], []⟩) (wants Q₁ E) s := by
  refine codeAny_of_tree (show wpAny _ A.in1 (do checkBuiltinCall "tuple.__new__" ⟨[.type "tuple", .ref r], []⟩; again (.builtin "tuple.__new__" ⟨[.type "tuple", .ref r], []⟩)) _ _ s from ?_)
  refine wpAny_bind (wpAny_of_eq (F.newCall_tuple_1 _) (wpAny_pure ⟨plainId_quiet F.plain_tuple_new _, codeAny_builtin F.entry_tuple_new ?_⟩))
  rw [Around.under_plainId F.plain_tuple_new _]
  have k1 := sub_tuple_self
  have k2 := init_tuple_lookup
  have k3 := madeHere_tuple
  have hTI : s.TypeIs (.ref r) T := K.type s hok
  have hh1 : A.in1.handled = none := hh
  have fin : ∀ h' tk acc, (∀ b o, s.heap.get? b = some o → h'.get? b = some o) → ItemsOf P acc n → wpAny (model prog w) A.in1 (Builtin.Tuple.tupleExact acc.toList.toArray >>= fun v => ret v) (fun fin s' => match fin with | .done f => wants Q₁ E (.ok f) s' | .again c' => c'.quiet = true ∧ codeAny (model prog w) A c' (wants Q₁ E) s') (fun e s' => wants Q₁ E (.error e) s') { s with heap := h', toks := tk } := by
    intro h' tk acc hk hacc
    have e : acc.toList.toArray = acc := by simp
    unfold Builtin.Tuple.tupleExact
    refine wpAny_bind (wpAny_newObj_type ?_ (by rw [e]; show acc.size ≤ sizeLine; rw [hacc.1]; exact hn))
    rw [e]
    exact wpAny_pure (h h' tk acc hk hacc)
  rcases hT with rfl | rfl
  · wp_walk using wpAny_typeOf hTI, PySem.W.kdu_collect (A := A.in1) K hh1 hok hn
    exact fin
  · wp_walk using wpAny_typeOf hTI, PySem.W.kdu_collect (A := A.in1) K hh1 hok hn
    exact fin
theorem call_src {Q : Value → Shared → Prop} (hT : T = "dict" ∨ T = "dict_values") (K : PySem.W.KdlSrc prog w T r d n P OK) (hh : A.handled = none) (hok : OK s.heap) (hn : n ≤ sizeLine) (hQ : Wants Q s P n) :
    wpAny (model prog w) A (call (.type "tuple") [.ref r]) Q E s := by
  refine callType_codes (Q₁ := fun v s₁ => s₁.TypeIs v "tuple" ∧ Q v s₁) F.called_tuple (F.typeCall_tuple_1 _) F.entry_object_init
    (new_src (A := A.in1) hT K hh hok hn fun h' tk acc hk hacc => ⟨⟨_, Heap.get?_push_size _ rfl, rfl⟩, hQ h' tk acc hk hacc⟩) fun v s₁ q => ?_
  exact ⟨q.1, F.args_object_init_2 v _, object_init_meets F.called_tuple.init.lookup F.called_tuple.made (by decide) prog w A.in1 _ s₁ ⟨q.1, rfl, q.2⟩⟩
end
/-- tuple(d) -/
def rTupD : List V → Hp → VK → Prop := fun xs H Q => ∃ p kvs, xs = [.ref p] ∧ H p = some (.dK kvs) ∧ ∀ q, H q = none → Q (.ref q) (upd H q (.tup (kvs.map fun kv => kV kv.1)))
theorem call_tup_dK {X : Cx} (hc : X.calm = true) : CallR X (.type "tuple") rTupD := by
  intro pins s σ H xs us Q I r h
  obtain ⟨p, kvs, rfl, hk, q⟩ := h
  obtain ⟨u, rfl, rx⟩ := vals1 r
  obtain rfl : u = Value.ref p := rx
  obtain ⟨z, lo, vs, rk, hd⟩ := (show ObjOk X.prog X.w H s.heap p (.dK kvs) from I.hok p _ hk)
  obtain ⟨ep, hat⟩ := hd.dictAt
  have hl : kvs.length = vs.length := Paired.length rk
  refine call_src (.inl rfl) (PySem.W.kdl_dict (knd := mixKind X.prog X.w) (kvs := vs) (ep := ep) lo) (I.ok.hd hc) hat (by rw [← hl]; exact z) fun h' tk acc hkeep hacc => ?_
  have I2 : Inv X pins σ H { s with heap := h', toks := tk } := I.kept hkeep
  refine ⟨.ref h'.objs.size, upd H h'.objs.size (.tup (kvs.map fun kv => kV kv.1)), I2.laid (t' := tk) (fun c o e => Heap.get?_push_of_some _ e) (Nat.le_refl _) (show ObjOk X.prog X.w _ _ _ (.tup (kvs.map fun kv => kV kv.1)) from ⟨?_, acc.toList, ?_, ?_⟩), rfl, q _ (I2.hok.fresh (Nat.le_refl _))⟩
  · rw [List.length_map]; exact z
  · have el : acc.toList.length = acc.size := by simp
    refine vals_of_at (by rw [List.length_map, el, hacc.1, hl]) fun j x u h1 h2 => ?_
    obtain ⟨k, y, hky, hi⟩ := hacc.2 j u (by rw [← Array.getElem?_toList]; exact h2)
    have e1 : (kvs.map (·.1))[j]? = some k := by
      rw [KV.keys rk, List.getElem?_map, hky]; rfl
    have e2 : (kvs.map fun kv => kV kv.1)[j]? = some (kV k) := by
      rw [show (kvs.map fun kv => kV kv.1) = (kvs.map (·.1)).map kV by rw [List.map_map]; rfl, List.getElem?_map, e1]; rfl
    rw [e2] at h1
    cases h1
    exact keyIs_rel hi
  · rw [Array.toArray_toList]; exact IsTup.new _ _
end TupD
/-! sorted(t) of a tuple of texts (fewer than 64) -/
namespace SortT
open PySem PySem.Spec PyProof.Rows L2
def rSortT (K : PySem.W.Frag) : List V → Hp → VK → Prop := fun xs H Q => ∃ (a : Addr) (zs : List Str), xs = [.ref a] ∧ SqT K H a (zs.map V.str) ∧ zs.length < 64 ∧ ∀ ys p, ys.Perm zs → sortedS ys = true → H p = none → Q (.ref p) (upd H p (.lst (ys.map V.str)))
theorem call_sortT {X : Cx} : CallR X (.builtin "sorted") (rSortT X.K) := by
  intro pins s σ H xs us Q I r h
  obtain ⟨a, zs, rfl, hs, h64, q⟩ := h
  obtain ⟨u, rfl, rx⟩ := vals1 r
  obtain rfl : u = Value.ref a := rx
  obtain ⟨its, rv, pl, hz⟩ := I.tuple hs
  have hS : StrsAre its zs := rv.strs
  have hal : its.length = zs.length := by
    have := rv.length
    rw [List.length_map] at this
    exact this.symm
  obtain ⟨⟨cls, dd, data, sl⟩, ho, hc, n, hd⟩ := id pl
  simp only at hc hd
  subst hc hd
  refine Calls.call_function_entry kind_sorted plain_sorted entry_sorted (args_sorted1 _) ?_
  unfold Builtin.«sorted»
  refine wpAny_bind (m := checkCount "sorted" 1 1 _) (wpAny_pure (wpAny_bind (wpAny_collect_seq (A := X.A.in1) a (.inr rfl) ho rfl rfl (fun h' hk => ?_) (by rw [List.size_toArray]; rw [← rv.length]; exact hz))))
  rw [List.toList_toArray]
  have I1 : Inv X pins σ H { s with heap := h' } := I.kept (t' := s.toks) hk
  refine wpAny_bind (wpAny_newList ?_ (by rw [hal, sizeLine_eq]; omega))
  have hoL : (h'.push (seqObj "list" its.toArray 0)).get? h'.objs.size = some (seqObj "list" its.toArray 0) := Heap.get?_push_size _ rfl
  show wpAny _ _ _ _ _ { s with heap := h'.push (seqObj "list" its.toArray 0) }
  refine wpAny_bind (wpAny_holding (wpAny_call_entry slot_list_sort ⟨_, hoL, rfl⟩ entry_list_sort
    (list_sort_treeK strKind_oneLt (s := { s with heap := h'.push (seqObj "list" its.toArray 0) }) hoL hS.keysOf (fun v₁ v₂ rest e => keyKind_strs (by rw [← e]; exact hS)) (by rw [hal]; exact h64) fun st' hp hs => ⟨_, rfl, ?_⟩) (args_list_sort _)))
  obtain ⟨ys, g1, g2, g3⟩ := sorted_out_str hS hp hs
  obtain ⟨e', he'⟩ := sortedHeap_at (vs := its) (out := (arrOf st').map (·.2)) hoL
  have hlen : (ys.map V.str).length ≤ sizeLine := by
    rw [List.length_map, g2.length_eq]
    exact Nat.le_trans (Nat.le_of_lt h64) (by decide)
  refine wpAny_pure ⟨_, rfl, .ref h'.objs.size, upd H h'.objs.size (.lst (ys.map V.str)), I1.laid (t' := s.toks) (fun b u e => ?_) (Nat.le_refl _) (show ObjOk X.prog X.w _ _ _ (.lst (ys.map V.str)) from ⟨hlen, ((arrOf st').map (·.2)).toList, e', vals_of_strs g1, by rw [Array.toArray_toList]; exact he'⟩), rfl, q ys _ g2 g3 (I1.hok.fresh (Nat.le_refl _))⟩
  have hb : b < h'.objs.size := Heap.lt_size e
  rw [sortedHeap_old (Nat.ne_of_lt hb) (by rw [size_push']; exact Nat.lt_succ_of_lt hb)]
  exact Heap.get?_push_of_some _ e
end SortT
namespace Sj
open PySem L2 Sup StK Own
open NdefX (NF NScope ncx envF startF nscope_by)
open C8 (pss_cut tCut)
/-! Frame's properties (k03, k05, ..) -/
theorem same_at {H : Hp} {a : Addr} {o : HO} (h : H a = none) : Same H (upd H a o) := fun b u e => by rw [upd_ne (ne_of_none e h)]; exact e
/-- a frame as data -/
structure FrD where
  ys : List LegR
  t : Int
  g : Bool
  r : Bool
structure FrIs (ks : Kinds) (CF : Addr) (H : Hp) (a : Addr) (d : FrD) : Prop where
  at_ : FrAt H a CF d.ys (.int d.t) (.bl d.g) (.bl d.r)
  ok : ∀ r ∈ d.ys, r.ok ks H
  nd : (names d.ys).Nodup
  le : d.ys.length ≤ 40
  so : PyProof.Rows.sortedS (names d.ys) = true
theorem FrIs.same {ks : Kinds} {CF : Addr} {H H' : Hp} {a : Addr} {d : FrD} (h : FrIs ks CF H a d) (s : Same H H') : FrIs ks CF H' a d := ⟨h.at_.same s, fun r hr => (h.ok r hr).same s, h.nd, h.le, h.so⟩
def strv (zs : List Str) : List V := zs.map V.str
def railsZ (g r : Bool) : List Str := (if g then [("ground" : Str)] else []) ++ if r then [("power" : Str)] else []
/-- a getter that makes a new tuple of texts -/
def spTup (ks : Kinds) (CF : Addr) (f : FrD → List Str) : Sp := fun vs H Q _ => ∃ a d, vs = [.ref a] ∧ FrIs ks CF H a d ∧ ∀ p H', H p = none → H' p = some (.tup (strv (f d))) → Same H H' → Q (.ref p) H'
structure FpT (P : Program) (w : World) (K : PySem.W.Frag) (mg : Str → Option Value) (base : Heap) (ks : Kinds) (CF : Addr) : Prop where
  cl : Cls K CF
  nL : NoAttr K CF "_legs"
  nG : NoAttr K CF "ground"
  nP : NoAttr K CF "power"
  tuple : mg "tuple" = none
  sorted : mg "sorted" = none
  dv : ∀ C, (C = ks.drv ∨ C = ks.lis) → PropN P w K mg base 1 C "drives" (spDr C (decide (C = ks.drv)))
def rTupQ (K : PySem.W.Frag) : List V → Hp → VK → Prop := fun xs H Q => ∃ p ys, xs = [.ref p] ∧ ((SqL K H p ys ∧ ∀ l, H l = none → Q (.ref l) (upd H l (.tup ys))) ∨ (SqT K H p ys ∧ Q (.ref p) H))
section
variable {P : Program} {w : World} {K : PySem.W.Frag} {mg : Str → Option Value} {base : Heap}
theorem scFp (i : Nat) (h : defScope (sFr i) = defScope (sFr 3)) : FnScope ["self"] ["self"] (defScope (sFr i)) := by
  rw [h]
  exact ⟨rfl, rfl, rfl, by decide +kernel, rfl, by decide +kernel, by decide +kernel⟩
theorem ok_fnames {f CF : Addr} {fd : FuncData} {ks : Kinds} (F : Fun K "names" "Frame.names" (sFr 4) f fd) (T : FpT P w K mg base ks CF) : FnOk P w K mg base CX0 1 f fd ["self"] (spTup ks CF fun d => names d.ys) := by
  refine F.ok (scFp 4 rfl) (fun vs H Q E h => ?_) (fun cdv A outer s H vs Q E hr h => ?_)
  · obtain ⟨a, d, rfl, _⟩ := h
    rfl
  · obtain ⟨a, d, rfl, hF, k⟩ := h
    obtain ⟨dx, D, ea, eD, _⟩ := hF.at_
    refine ⟨_, pss_one (ps_ret (pe_callTy (T := "tuple") (TupD.call_tup_dK rfl) (by rfl) T.tuple (by decide +kernel) (pa_cons (pe_fld (pv 0) rfl) pa_nil))), ?_⟩
    refine ⟨_, rfl, a, CF, dx, _, _, rfl, ea, T.cl, T.nL, frF_legs _ _ _ _, D, _, rfl, eD, fun q hq => k q _ hq ?_ (same_at hq)⟩
    rw [upd_same, List.map_map]
    show _ = some (HO.tup ((d.ys.map _).map _))
    rw [List.map_map]
    rfl
/-- behind the lock -/
theorem same_unlock {H H1 : Hp} {D : Addr} {od : Obj} {u : HO} (hD : H D = some u) (s : Same (upd H D (.frz od u)) H1) : Same H (upd H1 D u) := fun b o e => by
  by_cases z : b = D
  · rw [z] at e ⊢
    rw [upd_same, ← e, hD]
  · rw [upd_ne z]
    exact s _ _ (by rw [upd_ne z]; exact e)
end
end Sj
/-! Own exceptions over any built-in base, made and kept as values. -/
namespace Exg
open PySem PySem.Spec PyProof.Rows L2 Sup
open NdefX (NF NScope ncx envF startF CellsAt inv_startN)
/-- a built-in base -/
structure BaseE (B newId initId : String) (tl : List Value) : Prop where
  F : ExcBaseFacts B newId initId tl
  SF : StoreFacts B tl "object.__setattr__" "object"
  KF : PySem.W.KxsFacts B initId
abbrev tlL : List Value := [.type "LookupError", .type "Exception", .type "BaseException", .type "object"]
abbrev tlO : List Value := [.type "OverflowError", .type "ArithmeticError", .type "Exception", .type "BaseException", .type "object"]
theorem bL : BaseE "LookupError" "LookupError.__new__" "LookupError.__init__" tlL := ⟨PySem.F.excBase_LookupError, PySem.F.store_LookupError, PySem.W.kxs_LookupError⟩
theorem bO : BaseE "OverflowError" "OverflowError.__new__" "OverflowError.__init__" tlO := ⟨PySem.F.excBase_OverflowError, PySem.F.store_OverflowError, PySem.W.kxs_OverflowError⟩
end Exg
namespace Exg
open PySem PySem.Spec PyProof.Rows L2 Sup Grd
end Exg
/-! C(name = e): an own exception, made by keywords. -/
namespace Exg
open PySem PySem.Spec PyProof.Rows L2 Sup Grd
end Exg
namespace Exg
open PySem PySem.Spec PyProof.Rows L2 Sup Grd
/-! ### what is kept: its fields, its classes -/
/-- an exception at a, of the class at C, with these fields -/
def ExAt (H : Hp) (a C : Addr) (fs : List (Str × V)) : Prop := ∃ dx, H a = some (exo a C (some dx)) ∧ H dx = some (exd dx fs)
/-- an exception at a, its dict made or not -/
def ExIs (H : Hp) (a C : Addr) : Prop := H a = some (exo a C none) ∨ ∃ fs, ExAt H a C fs
theorem ExIs.inst {X : Cx} {pins : List (Addr × Obj)} {s : Shared} {σ : L2.St} {H : Hp} {a C : Addr} (I : Inv X pins σ H s) (h : ExIs H a C) : ∃ ox od, PySem.W.InstAt s.heap a ox C od := by
  rcases h with e | ⟨fs, dx, e, ed⟩
  · obtain ⟨t1, ho⟩ := exo_at I.hok e
    exact ⟨_, none, ho, rfl, rfl, trivial⟩
  · obtain ⟨t1, ho⟩ := exo_at I.hok e
    obtain ⟨mA, hns, _⟩ := exd_at I.hok ed
    obtain ⟨od, _, _, hd, _⟩ := hns
    exact ⟨_, some od, ho, rfl, rfl, hd⟩
end Exg
/-! repr of data with an empty dict in it, where nothing is being shown. -/
namespace Shw
open PySem PySem.Spec PyProof.Rows L2
mutual
/-- data; its lists are none of the interpreter's own -/
inductive Dq (K : PySem.W.Frag) (H : Hp) : V → PyData → Prop
  | non : Dq K H .non .none
  | bl (b : Bool) : Dq K H (.bl b) (.bool b)
  | int (i : Int) : Dq K H (.int i) (.int i)
  | str (x : Str) : Dq K H (.str x) (.str x)
  | lst {a : Addr} {xs : List V} {ds : List PyData} (n : sysModules ≠ a) (h : SqL K H a xs) (r : DqAll K H xs ds) : Dq K H (.ref a) (.list ds)
  | tup {a : Addr} {xs : List V} {ds : List PyData} (h : SqT K H a xs) (r : DqAll K H xs ds) : Dq K H (.ref a) (.tuple ds)
  | dic {a : Addr} (h : Rd H a (.dK [])) : Dq K H (.ref a) (.dict [])
  | di1 {a : Addr} {z : Str} {i : Int} (h : Rd H a (.dK [(Sum.inr z, .int i)])) : Dq K H (.ref a) (.dict [(.str z, .int i)])
inductive DqAll (K : PySem.W.Frag) (H : Hp) : List V → List PyData → Prop
  | nil : DqAll K H [] []
  | cons {v : V} {vs : List V} {d : PyData} {ds : List PyData} (h : Dq K H v d) (r : DqAll K H vs ds) : DqAll K H (v :: vs) (d :: ds)
end
theorem DqAll.append {K : PySem.W.Frag} {H : Hp} {xs ys : List V} {ds es : List PyData} (h : DqAll K H xs ds) (g : DqAll K H ys es) : DqAll K H (xs ++ ys) (ds ++ es) := by
  induction ds generalizing xs with
  | nil => cases h; exact g
  | cons d ds ih => cases h with | cons a b => exact .cons a (ih b)
theorem rd_same {H H' : Hp} {a : Addr} {u : HO} (s : ∀ b o, H b = some o → H' b = some o) (h : Rd H a u) : Rd H' a u := h.imp (s _ _) fun ⟨o, e⟩ => ⟨o, s _ _ e⟩
mutual
theorem Dq.same {K : PySem.W.Frag} {H H' : Hp} (s : ∀ b o, H b = some o → H' b = some o) : ∀ (d : PyData) (v : V), Dq K H v d → Dq K H' v d
  | .none, _, h => by cases h; exact .non
  | .bool _, _, h => by cases h; exact .bl _
  | .int _, _, h => by cases h; exact .int _
  | .str _, _, h => by cases h; exact .str _
  | .list ds, _, h => by
    cases h with
    | lst n q r => exact .lst n (q.imp (rd_same s) id) (Dq.sameAll s ds _ r)
  | .tuple ds, _, h => by
    cases h with
    | tup q r => exact .tup (q.imp (rd_same s) id) (Dq.sameAll s ds _ r)
  | .dict _, _, h => by
    cases h with
    | dic q => exact .dic (rd_same s q)
    | di1 q => exact .di1 (rd_same s q)
theorem Dq.sameAll {K : PySem.W.Frag} {H H' : Hp} (s : ∀ b o, H b = some o → H' b = some o) : ∀ (ds : List PyData) (vs : List V), DqAll K H vs ds → DqAll K H' vs ds
  | [], _, h => by cases h; exact .nil
  | d :: ds, _, h => by
    cases h with
    | cons a b => exact .cons (Dq.same s d _ a) (Dq.sameAll s ds _ b)
end
section
variable {X : Cx} {pins : List (Addr × Obj)} {σ : L2.St} {H : Hp} {s : Shared}
mutual
theorem Dq.reads (I : Inv X pins σ H s) : ∀ (d : PyData) (v : V) (u : Value), Dq X.K H v d → RelV v u → ∃ as, Reads s.heap u d as ∧ sysModules ∉ as
  | .none, _, _, h, r => by
    cases h; cases r
    exact ⟨[], .none, List.not_mem_nil⟩
  | .bool b, _, _, h, r => by
    cases h; cases r
    exact ⟨[], .bool b, List.not_mem_nil⟩
  | .int i, _, _, h, r => by
    cases h
    obtain ⟨t, rfl⟩ := r
    exact ⟨[], .int i t, List.not_mem_nil⟩
  | .str x, _, _, h, r => by
    cases h
    obtain ⟨t, rfl⟩ := r
    exact ⟨[], .str x t, List.not_mem_nil⟩
  | .list ds, _, _, h, r => by
    cases h with
    | lst n hs ha =>
      cases r
      obtain ⟨its, rv, ⟨o, k, ho, hc, _, hd⟩, _⟩ := I.list hs
      obtain ⟨as, hr, hn⟩ := Dq.readsAll I ds _ its ha rv
      exact ⟨_, .list ho hc hd hr, fun z => (List.mem_cons.mp z).elim n hn⟩
  | .tuple ds, _, _, h, r => by
    cases h with
    | tup hs ha =>
      cases r
      obtain ⟨its, rv, ⟨o, ho, hc, k, hd⟩, _⟩ := I.tuple hs
      obtain ⟨as, hr, hn⟩ := Dq.readsAll I ds _ its ha rv
      exact ⟨_, .tuple ho hc hd hr, hn⟩
  | .dict _, _, _, h, r => by
    cases h with
    | dic hs =>
      cases r
      obtain ⟨_, hsm, vs, kv, o, es, ep, ho, hx, hd, hk, hp, _⟩ := dk_rd I.hok hs
      cases kv
      have e0 : es.toList = [] := by
        generalize es.toList = l at hp
        cases hp
        rfl
      refine ⟨_, .dict (as := []) (bs := []) ho hx.1 hd (by rw [e0]; exact .nil) (by rw [e0]; exact .nil), ?_⟩
      intro z
      rw [List.append_nil] at z
      rw [List.mem_singleton.mp z] at hsm
      exact absurd hsm (by simp)
    | @di1 a z i hs =>
      cases r
      obtain ⟨_, hsm, vs, kv, o, es, ep, ho, hx, hd, hk, hp, _⟩ := dk_rd I.hok hs
      cases kv with
      | cons hkv kv =>
      cases kv
      rename_i q
      obtain ⟨hk1, hk2⟩ := hkv
      obtain ⟨tk, e2⟩ := hk2
      have e0 : ∃ en : DictEntry, es.toList = [en] ∧ (∃ tz, en.key = .str z tz) ∧ en.val = .int i tk := by
        generalize es.toList = l at hp
        cases hp with
        | cons h1 h2 h3 =>
          cases h3
          refine ⟨_, rfl, ?_, by rw [h2, e2]⟩
          rw [← hk1] at h1
          rcases keyIs_shape (show keyIs (Sum.inr z) _ = true from h1) with ⟨j, u, e, _⟩ | ⟨y, u, e, ey⟩
          · cases e
          · injection e with e
            exact ⟨u, by rw [ey, e]⟩
      obtain ⟨en, e1, ⟨tz, ez⟩, ev⟩ := e0
      refine ⟨_, .dict (as := []) (bs := []) ho hx.1 hd (by rw [e1]; show ReadsAll _ [en.key] _ _; rw [ez]; exact .cons (.str _ _) .nil) (by rw [e1]; show ReadsAll _ [en.val] _ _; rw [ev]; exact .cons (.int _ _) .nil), ?_⟩
      intro z
      rw [List.append_nil] at z
      rw [List.mem_singleton.mp z] at hsm
      exact absurd hsm (by simp)
theorem Dq.readsAll (I : Inv X pins σ H s) : ∀ (ds : List PyData) (vs : List V) (us : List Value), DqAll X.K H vs ds → Vals vs us → ∃ as, ReadsAll s.heap us ds as ∧ sysModules ∉ as
  | [], _, _, h, r => by
    cases h; cases r
    exact ⟨[], .nil, List.not_mem_nil⟩
  | d :: ds, _, _, h, r => by
    cases h with
    | cons h1 h2 =>
      cases r with
      | cons r1 r2 =>
        obtain ⟨as, q1, n1⟩ := Dq.reads I d _ _ h1 r1
        obtain ⟨bs, q2, n2⟩ := Dq.readsAll I ds _ _ h2 r2
        exact ⟨_, .cons q1 q2, fun z => (List.mem_append.mp z).elim n1 n2⟩
end
end
section
variable {X : Cx}
/-- what may be shown -/
structure Fit (d : PyData) : Prop where
  sh : PyData.showable d = true
  dp : d.depth ≤ 60
  sz : d.shown.length ≤ sizeLine
def rShow (K : PySem.W.Frag) : List V → Hp → VK → Prop := fun xs H Q => ∃ x d, xs = [x] ∧ Dq K H x d ∧ Fit d ∧ Q (.str d.shown) H
theorem call_show (hg : X.A.guards = some []) (hu : X.A.units + 64 < cLine) : CallR X (.builtin "repr") (rShow X.K) := by
  intro pins s σ H xs us Q I r h
  obtain ⟨x, d, rfl, hd, ft, q⟩ := h
  obtain ⟨u, rfl, ru⟩ := vals1 r
  obtain ⟨as, rd, na⟩ := Dq.reads I d x u hd ru
  cases hd with
  | non => cases ru; exact PySem.P.repr_of_none ⟨.str _, H, I.tok _, ⟨_, rfl⟩, q⟩
  | bl b => cases ru; exact PySem.P.repr_of_bool ⟨.str _, H, I.tok _, ⟨_, rfl⟩, q⟩
  | int i => obtain ⟨t, rfl⟩ := ru; exact PySem.P.repr_of_int (of_decide_eq_true ft.sh) ⟨.str _, H, I.tok _, ⟨_, rfl⟩, q⟩
  | str y => obtain ⟨t, rfl⟩ := ru; exact PySem.P.repr_of_str ⟨.str _, H, I.tok _, ⟨_, rfl⟩, q⟩ ft.sz
  | lst n q1 q2 => cases ru; exact PySem.repr_of_reads' rd ft.sh (fun _ => na) hg (by have := ft.dp; omega) (fun _ _ e => e) (fun h' u tk hk => ⟨.str _, H, I.kept (t' := tk) hk, ⟨_, rfl⟩, q⟩) ft.sz
  | tup q1 q2 => cases ru; exact PySem.repr_of_reads' rd ft.sh (fun _ => na) hg (by have := ft.dp; omega) (fun _ _ e => e) (fun h' u tk hk => ⟨.str _, H, I.kept (t' := tk) hk, ⟨_, rfl⟩, q⟩) ft.sz
  | dic q1 => cases ru; exact PySem.repr_of_reads' rd ft.sh (fun _ => na) hg (by have := ft.dp; omega) (fun _ _ e => e) (fun h' u tk hk => ⟨.str _, H, I.kept (t' := tk) hk, ⟨_, rfl⟩, q⟩) ft.sz
  | di1 q1 => cases ru; exact PySem.repr_of_reads' rd ft.sh (fun _ => na) hg (by have := ft.dp; omega) (fun _ _ e => e) (fun h' u tk hk => ⟨.str _, H, I.kept (t' := tk) hk, ⟨_, rfl⟩, q⟩) ft.sz
/-- new lists -/
theorem big {pins : List (Addr × Obj)} {σ : L2.St} {H : Hp} {s : Shared} (I : Inv X pins σ H s) : sysModules ≠ s.heap.objs.size := Nat.ne_of_lt (StX.env0_big I.env0)
def tLstN (t : TA) : TE := fun σ H Q => t σ H fun xs H1 => xs.length ≤ sizeLine ∧ ∀ p, H1 p = none → sysModules ≠ p → Q (.ref p) (upd H1 p (.lst xs))
theorem pe_lstN {es : List Expr} {t : TA} {pos : Pos} (h : PA X es t) : PE X (.List es pos) (tLstN t) := by
  refine ⟨fun pins s σ H Q I hq => wpAny_List_spliced (thn (h.run pos pins s σ H _ I hq) ?_)⟩
  rintro us s1 ⟨xs, H1, I1, r, z, q⟩
  refine ⟨r.length ▸ z, .ref s1.heap.objs.size, _, I1.lnew (t' := s1.toks) r z, rfl, q _ I1.fresh (big I1)⟩
def rCatN : R2 := fun x y H Q => ∃ l b xs zs, x = .ref l ∧ y = .ref b ∧ H l = some (.lst xs) ∧ H b = some (.lst zs) ∧ xs.length + zs.length ≤ sizeLine ∧ ∀ p, H p = none → sysModules ≠ p → Q (.ref p) (upd H p (.lst (xs ++ zs)))
theorem op_catN : OpR X (binaryOp .Add) rCatN := by
  intro pins s σ H x y v u Q I rx ry h
  obtain ⟨l, b, xs, zs, rfl, rfl, hH, hB, hz, q⟩ := h
  cases rx; cases ry
  obtain ⟨_, its, n, r, hl, e⟩ := I.lstM hH
  obtain ⟨_, its2, n2, r2, hl2, e2⟩ := I.lstM hB
  refine PySem.P.add_list e e2 ?_ (by rw [List.size_toArray, List.size_toArray, ← hl, ← hl2]; exact hz)
  rw [show its.toArray ++ its2.toArray = (its ++ its2).toArray from by simp]
  exact ⟨.ref _, _, I.lnew (t' := s.toks) (r.append r2) (by rw [List.length_append]; exact hz), rfl, q _ I.fresh (big I)⟩
end
end Shw
namespace Exg
open PySem PySem.Spec PyProof.Rows L2 Sup Grd Shw
open NdefX (NF NScope ncx envF startF CellsAt inv_startN nscope_by)
/-- what is kept, small enough to be told in a message -/
structure Smalls (d : PyData) : Prop where
  fit : Fit d
  sz : d.shown.length ≤ 1000
end Exg
/-! raise C(e): an own error over any built-in base, whose __init__ shows what it is given -/
namespace Exg
open PySem PySem.Spec PyProof.Rows L2 Sup Grd Shw
end Exg
namespace Sj
open PySem L2 Sup StK Own Grd Exg Shw
open NdefX (NF NScope ncx envF startF nscope_by)
open C8 (pss_cut tCut)
/-! Frame.rails, members, [] (k03, k05, ..) -/
def rowsR (g r : Bool) : List (Key × V) := [(Sum.inr "ground", .bl g), (Sum.inr "power", .bl r)]
theorem rowsR_merge (g r : Bool) : mergeK [] (rowsR g r) = rowsR g r := by
  unfold rowsR mergeK putK
  simp +decide
def ttRl : TT := tB (tDGet (tVar 1) (tVar 2))
def railsP (g r : Bool) : Nat → List Str
  | 0 => []
  | 1 => if g then [("ground" : Str)] else []
  | _ => railsZ g r
section
variable {P : Program} {w : World} {K : PySem.W.Frag} {mg : Str → Option Value} {base : Heap}
theorem scFr7 : FnScope ["self", "there", "name"] ["self"] (defScope (sFr 7)) := ⟨rfl, rfl, rfl, by decide +kernel, rfl, by decide +kernel, by decide +kernel⟩
theorem ok_frails {f CF : Addr} {fd : FuncData} {ks : Kinds} (F : Fun K "rails" "Frame.rails" (sFr 7) f fd) (T : FpT P w K mg base ks CF) : FnOk P w K mg base CX0 1 f fd ["self"] (spTup ks CF fun d => railsZ d.g d.r) := by
  refine F.ok scFr7 (fun vs H Q E h => ?_) (fun cdv A outer s H vs Q E hr h => ?_)
  · obtain ⟨a, d, rfl, _⟩ := h
    rfl
  · obtain ⟨a, d, rfl, hF, k⟩ := h
    obtain ⟨dx, D, ea, eD, _⟩ := hF.at_
    refine ⟨_, pss_cons (ps_set (i := 1) scFr7.nd rfl (Or.inr rfl) (pe_disp (pps_cons pe_str (pe_fld (pv 0) rfl) (pps_cons pe_str (pe_fld (pv 0) rfl) pps_nil)) (by rfl) (by rfl) (fun z => by cases z) (by decide)))
      (pss_one (ps_ret (pe_lock (pe_callTy (T := "tuple") call_tuple_of (by rfl) T.tuple (by decide +kernel) (pa_cons (pe_lc (te := tVar 2) (tt := ttRl) (own := [("name", 2)]) (g := gName 2) rfl scFr7.nd (pi_keys (pv 1))
        (blkOk_by (N := ["self", "there", "name"]) (sc := defScope (sFr 7)) (by decide +kernel)) (fun _ _ _ _ _ => pg_name (i := 2) scFr7.nd rfl (Or.inl rfl)) (fun _ _ _ _ _ => pts_one (pt_val (pe_dget (hu_of hr) (pv 1) (pv 2) (fun _ _ => rfl)))) (fun _ _ _ _ _ => pv 2)) pa_nil))))), ?_⟩
    refine fun p hp => ?_
    have hap : a ≠ p := ne_of_none ea hp
    have ea1 : upd H p (.dK []) a = some (.ins CF dx (frF D (.int d.t) (.bl d.g) (.bl d.r))) := by rw [upd_ne hap]; exact ea
    refine ⟨_, rfl, a, CF, dx, _, _, rfl, ea1, T.cl, T.nG, frF_ground _ _ _ _, _, rfl, a, CF, dx, _, _, rfl, ea1, T.cl, T.nP, frF_power _ _ _ _, upd_same, rowsR d.g d.r, rfl, (by show 2 ≤ 15; decide), ?_⟩
    rw [rowsR_merge]
    obtain ⟨H1, e1⟩ : ∃ H1, H1 = upd (upd H p (.dK [])) p (.dK (rowsR d.g d.r)) := ⟨_, rfl⟩
    rw [← e1]
    have hp1 : H1 p = some (.dK (rowsR d.g d.r)) := by rw [e1, upd_same]
    have s1 : Same H H1 := fun b o e => by
      have n := ne_of_none e hp
      rw [e1, upd_ne n, upd_ne n]
      exact e
    refine ⟨p, _, hp1, trivial, fun od => ?_⟩
    obtain ⟨HL, eL⟩ : ∃ HL, HL = upd H1 p (.frz od (.dK (rowsR d.g d.r))) := ⟨_, rfl⟩
    rw [← eL]
    have hpL : HL p = some (.frz od (.dK (rowsR d.g d.r))) := by rw [eL, upd_same]
    refine ⟨_, rfl, p, od, rfl, .inl ⟨_, hpL, fun Dn hDn => ?_⟩⟩
    refine lc_it (walk_keys (d := p) (o := od) (kvs := rowsR d.g d.r)) (fun i H' => Same HL H' ∧ H' Dn = some (.lst (strv (railsP d.g d.r i)))) ⟨same_at hDn, upd_same⟩ (fun i H' _ q => q.1 _ _ hpL) ?_ ?_
    · rintro i x H2 H3 hi ⟨s2, d2⟩ ⟨rfl, kk, vv, hkv, rfl⟩
      refine ⟨rfl, ?_⟩
      have hget : ∀ (z : Str) (v : Bool), valV (rowsR d.g d.r) (Sum.inr z) = some (.bl v) → DGet H3 p (.str z) (some (.bl v)) := fun z v e => .inl ⟨rowsR d.g d.r, Sum.inr z, .inr ⟨od, s2 _ _ hpL⟩, rfl, e.symm⟩
      have go : ∀ (z : Str) (v : Bool) (acc acc' : List Str), valV (rowsR d.g d.r) (Sum.inr z) = some (.bl v) → H3 Dn = some (.lst (strv acc)) → acc.length ≤ 2 → acc' = acc ++ (if v then [z] else []) →
          ttRl [some (.ref a), some (.ref p), some (.str z)] H3 fun b H4 => if b = true then tVar 2 [some (.ref a), some (.ref p), some (.str z)] H4 fun y H5 => ∃ ac, H5 Dn = some (.lst ac) ∧ ac.length < sizeLine ∧ (Same HL (upd H5 Dn (.lst (ac ++ [y]))) ∧ (upd H5 Dn (.lst (ac ++ [y]))) Dn = some (.lst (strv acc'))) else Same HL H4 ∧ H4 Dn = some (.lst (strv acc')) := by
        intro z v acc acc' hv hd hl he
        refine ⟨_, rfl, _, rfl, p, _, rfl, hget z v hv, _, rfl, ?_⟩
        cases v with
        | true =>
          refine ⟨_, rfl, _, hd, ?_, fun c o hc => ?_, ?_⟩
          · show (List.map V.str acc).length < _
            rw [List.length_map]
            exact Nat.lt_of_le_of_lt hl (by decide)
          · rw [upd_ne (ne_of_none hc hDn)]
            exact s2 _ _ hc
          · rw [upd_same, he]
            show _ = some (HO.lst (List.map V.str _))
            rw [List.map_append]
            rfl
        | false =>
          refine ⟨s2, ?_⟩
          rw [he, if_neg Bool.false_ne_true, List.append_nil]
          exact hd
      match i, hi, hkv, d2 with
      | 0, _, hkv, d2 =>
        obtain ⟨rfl, rfl⟩ : Sum.inr ("ground" : Str) = kk ∧ V.bl d.g = vv := by have := Option.some.inj hkv; exact ⟨congrArg Prod.fst this, congrArg Prod.snd this⟩
        exact go "ground" d.g [] (railsP d.g d.r 1) rfl d2 (by decide) rfl
      | 1, _, hkv, d2 =>
        obtain ⟨rfl, rfl⟩ : Sum.inr ("power" : Str) = kk ∧ V.bl d.r = vv := by have := Option.some.inj hkv; exact ⟨congrArg Prod.fst this, congrArg Prod.snd this⟩
        refine go "power" d.r (railsP d.g d.r 1) (railsP d.g d.r 2) rfl d2 ?_ rfl
        show (if d.g then [("ground" : Str)] else []).length ≤ 2
        cases d.g <;> decide
    · rintro H2 ⟨s2, d2⟩
      refine ⟨Dn, _, rfl, .inl ⟨SqL.of d2, fun q hq => ⟨?_, ?_⟩⟩⟩
      · rw [upd_ne (ne_of_none (s2 _ _ hpL) hq)]
        exact s2 _ _ hpL
      · have hqp : q ≠ p := fun z => by rw [z, s2 _ _ hpL] at hq; cases hq
        refine k q _ ?_ (by rw [upd_ne hqp, upd_same]; rfl) (s1.trans (same_unlock hp1 (by rw [← eL]; exact s2.trans (same_at hq))))
        refine s1.free ?_
        cases z : H1 q with
        | none => rfl
        | some o =>
          have e2 : HL q = some o := by rw [eL, upd_ne hqp]; exact z
          rw [s2 _ _ e2] at hq
          cases hq
end
end Sj
namespace Sj
open PySem L2 Sup StK Own Grd Exg Shw
open NdefX (NF NScope ncx envF startF nscope_by)
open C8 (pss_cut tCut)
/-! Frame.members, [], == (k03, k05, ..) -/
theorem FrIs.ins {ks : Kinds} {CF : Addr} {H : Hp} {a : Addr} {d : FrD} (h : FrIs ks CF H a d) : ∃ dx fs, H a = some (.ins CF dx fs) := by
  obtain ⟨dx, D, ea, _⟩ := h.at_
  exact ⟨dx, _, ea⟩
/-- the names of all elements, in order -/
def Mem (d : FrD) (ms : List Str) : Prop := ms.Perm (names d.ys ++ railsZ d.g d.r) ∧ PyProof.Rows.sortedS ms = true
def spMem (ks : Kinds) (CF : Addr) : Sp := fun vs H Q _ => ∃ a d, vs = [.ref a] ∧ FrIs ks CF H a d ∧ ∀ ms p H', Mem d ms → H p = none → H' p = some (.tup (strv ms)) → Same H H' → Q (.ref p) H'
/-- what is no name of a leg -/
def NotLeg (K : PySem.W.Frag) (H : Hp) (x : V) (d : FrD) : Prop := (∃ z : Str, x = .str z ∧ z ∉ names d.ys) ∨ ∃ t : String, TyX K H x (.type t) ∧ kitB t "str" = some false
def spFIs (K : PySem.W.Frag) (ks : Kinds) (CF : Addr) : Sp := fun vs H Q _ => ∃ a d x, vs = [.ref a, x] ∧ FrIs ks CF H a d ∧ ((∃ z : Str, x = .str z ∧ z ∈ names d.ys ∧ Q (.bl true) H) ∨ (NotLeg K H x d ∧ Q (.bl false) H))
theorem spFIs_of {K : PySem.W.Frag} {ks : Kinds} {CF : Addr} {vs : List V} {H : Hp} {Q : VK} {E : XK} (h : spFIs K ks CF vs H Q E) : spFIn K CF vs H Q E := by
  obtain ⟨a, d, x, rfl, hF, h⟩ := h
  refine ⟨a, d.ys, _, _, _, x, rfl, hF.at_, ?_⟩
  rcases h with ⟨z, rfl, hz, k⟩ | ⟨hn, k⟩
  · refine .inl ⟨z, rfl, ?_⟩
    rw [decide_eq_true hz]
    exact k
  · rcases hn with ⟨z, rfl, hz⟩ | ⟨t, ty, e⟩
    · refine .inl ⟨z, rfl, ?_⟩
      rw [decide_eq_false hz]
      exact k
    · exact .inr ⟨t, ty, e, k⟩
section
variable {P : Program} {w : World} {K : PySem.W.Frag} {mg : Str → Option Value} {base : Heap}
theorem scFr8 : FnScope ["self"] ["self"] (defScope (sFr 8)) := ⟨rfl, rfl, rfl, by decide +kernel, rfl, by decide +kernel, by decide +kernel⟩
theorem ok_fmem {f CF : Addr} {fd : FuncData} {ks : Kinds} (F : Fun K "members" "Frame.members" (sFr 8) f fd) (T : FpT P w K mg base ks CF) (TN : PropN P w K mg base 1 CF "names" (spTup ks CF fun d => names d.ys)) (TR : PropN P w K mg base 1 CF "rails" (spTup ks CF fun d => railsZ d.g d.r)) :
    FnOk P w K mg base CX0 3 f fd ["self"] (spMem ks CF) := by
  refine F.ok (scFr8) (fun vs H Q E h => ?_) (fun cdv A outer s H vs Q E hr h => ?_)
  · obtain ⟨a, d, rfl, _⟩ := h
    rfl
  · obtain ⟨a, d, rfl, hF, k⟩ := h
    obtain ⟨dx, fs, ea⟩ := hF.ins
    refine ⟨_, pss_one (ps_ret (pe_callTy (T := "tuple") call_tuple_of (by rfl) T.tuple (by decide +kernel) (pa_cons (pe_callB SortT.call_sortT (by rfl) T.sorted (by decide +kernel) (pa_cons (pe_op op_catA (pe_propS (S := fun C => C = CF) (spP := fun _ => spTup ks CF fun d => names d.ys) (pv 0) (fun C e => by rw [e]; exact TN) hr) (pe_propS (S := fun C => C = CF) (spP := fun _ => spTup ks CF fun d => railsZ d.g d.r) (pv 0) (fun C e => by rw [e]; exact TR) hr)) pa_nil)) pa_nil))), ?_⟩
    refine ⟨_, rfl, a, CF, dx, fs, rfl, ea, rfl, a, d, rfl, hF, fun p1 H1 hp1 hv1 s1 => ?_⟩
    refine ⟨_, rfl, a, CF, dx, fs, rfl, s1 _ _ ea, rfl, a, d, rfl, hF.same s1, fun p2 H2 hp2 hv2 s2 => ?_⟩
    have hn40 : (names d.ys).length ≤ 40 := by unfold names; rw [List.length_map]; exact hF.le
    have hr2 : (railsZ d.g d.r).length ≤ 2 := by unfold railsZ; cases d.g <;> cases d.r <;> decide
    have go : ∀ q H3, H3 q = some (.tup (strv (names d.ys ++ railsZ d.g d.r))) → Same H2 H3 → SortT.rSortT K [.ref q] H3 (fun v H' => rTupQ K [v] H' fun v' H'' => Q v' H'') := fun q H3 hq s3 => by
      refine ⟨q, _, rfl, SqT.of hq, by rw [List.length_append]; omega, fun ms p hperm hso hp => ?_⟩
      have s4 := same_at (o := .lst (ms.map V.str)) hp
      refine ⟨p, _, rfl, .inl ⟨SqL.of upd_same, fun l hl => ?_⟩⟩
      have s5 := same_at (o := .tup (ms.map V.str)) hl
      have s03 := (s1.trans s2).trans s3
      exact k ms l _ ⟨hperm, hso⟩ ((s03.trans s4).free hl) upd_same ((s03.trans s4).trans s5)
    refine ⟨p1, p2, strv (names d.ys), strv (railsZ d.g d.r), rfl, rfl, SqT.of (s2 _ _ hv1), SqT.of hv2, ?_, fun e => ?_, fun _ e => ?_, fun _ _ p3 hp3 => ?_⟩
    · show (List.map _ _).length + (List.map _ _).length ≤ _
      rw [List.length_map, List.length_map]
      exact Nat.le_trans (show _ ≤ 42 by omega) (by decide)
    · have e0 : names d.ys = [] := List.map_eq_nil_iff.mp e
      exact go p2 H2 (by rw [e0, List.nil_append]; exact hv2) (Same.refl _)
    · have e0 : railsZ d.g d.r = [] := List.map_eq_nil_iff.mp e
      exact go p1 H2 (by rw [e0, List.append_nil]; exact s2 _ _ hv1) (Same.refl _)
    · refine go p3 _ ?_ (same_at hp3)
      rw [upd_same]
      show _ = some (HO.tup (List.map _ _))
      rw [List.map_append]
      rfl
end
end Sj
namespace Sj
open PySem L2 Sup
open NdefX (NF NScope ncx envF startF nscope_by)
open C8 (pss_cut tCut)
abbrev sTags : Stmt := top 32
def poolA : List Str := ["a", "frame", "b", "rest", "self", "c", "zzzzzzzz", "word", "d"]
def poolB : List Str := ["e", "reads", "leg", "x", "grounds", "q", "cls"]
def poolS : List Str := poolA ++ poolB
def spTags : Sp := fun vs H Q _ => ∃ (p l : Addr) (cs : List Int) (n m : Nat), vs = [.ref p, .int m] ∧ Pen H p l cs n ∧ m ≤ 16 ∧ n < 100000 ∧
  ∀ (H' : Hp) (q : Addr) (xs rest : List Str), H q = none → H' q = some (.lst (xs.map V.str)) → xs.length = m → (xs ++ rest).Perm poolS → Pen H' p l cs (n + m) → But H H' p → Q (.ref q) H'
section
variable {P : Program} {w : World} {K : PySem.W.Frag} {mg : Str → Option Value} {base : Heap}
theorem scTags : FnScope ["_law_pen_here", "_law_many", "_law_pool", "_law_turn"] ["_law_pen_here", "_law_many"] (defScope sTags) := ⟨rfl, rfl, rfl, by decide +kernel, rfl, by decide +kernel, by decide +kernel⟩
theorem map_erase {α β : Type} (f : α → β) : ∀ (xs : List α) (k : Nat), (xs.map f).eraseIdx k = (xs.eraseIdx k).map f
  | [], _ => by simp
  | x :: xs, 0 => rfl
  | x :: xs, k + 1 => by
    show f x :: (xs.map f).eraseIdx k = f x :: (xs.eraseIdx k).map f
    rw [map_erase f xs k]
theorem perm_erase {α : Type} : ∀ (xs : List α) (k : Nat) (h : k < xs.length), ([xs[k]] ++ xs.eraseIdx k).Perm xs
  | x :: xs, 0, _ => List.Perm.refl _
  | x :: xs, k + 1, h => by
    have hk : k < xs.length := Nat.lt_of_succ_lt_succ h
    have q := perm_erase xs k hk
    exact (List.Perm.swap x xs[k] (xs.eraseIdx k)).trans (List.Perm.cons x q)
theorem Pen.same {H H' : Hp} {p l : Addr} {cs : List Int} {n : Nat} (h : Pen H p l cs n) (s : Same H H') : Pen H' p l cs n := by
  obtain ⟨i, g, h1, h2, h3⟩ := h
  exact ⟨i, g, s _ _ h1, s _ _ h2, h3⟩
/-- the reading of _law_pool.pop(_law_draw(_law_pen_here, len(_law_pool))) -/
def rLenQ (K : PySem.W.Frag) : List V → Hp → VK → Prop := fun xs H Q => ∃ p ys, xs = [.ref p] ∧ (SqL K H p ys ∨ SqT K H p ys) ∧ Q (.int ys.length) H
def rPopQ : V → List V → Hp → VK → Prop := fun x ys H Q => ∃ l xs i k y, x = .ref l ∧ ys = [.int i] ∧ H l = some (.lst xs) ∧ -(2 ^ 63) ≤ i ∧ i < 2 ^ 63 ∧ seqIndex? i xs.length = some k ∧ xs[k]? = some y ∧ Q y (upd H l (.lst (xs.eraseIdx k)))
def tePop (K : PySem.W.Frag) : TE := tBM K "list" rPopQ (tVar 2) (tCons (tCall spDraw [] E0 (tCons (tVar 0) (tCons (tCB (rLenQ K) (tCons (tVar 2) tNil)) tNil))) tNil)
theorem ok_tags {f fD : Addr} {fd fdD : FuncData} (F : Fun K "_law_tags" "_law_tags" sTags f fd) (B : Bi mg) (mR : mg "range" = none) (FD : Fun K "_law_draw" "_law_draw" sDraw fD fdD) (bD : Binds K fdD ["_law_pen_here", "_law_many"] []) (mD : mg "_law_draw" = some (.ref fD)) :
    FnOk P w K mg base CX0 2 f fd ["_law_pen_here", "_law_many"] spTags := by
  have GD : FnOk P w K mg base CX0 1 fD fdD ["_law_pen_here", "_law_many"] spDraw := ok_draw FD B
  refine F.ok scTags (fun vs H Q E h => ?_) (fun cdv A outer s H vs Q E hr h => ?_)
  · obtain ⟨p, l, cs, n, m, rfl, _⟩ := h
    rfl
  · obtain ⟨p, l, cs, n, m, rfl, hP, hm, hn, k⟩ := h
    refine ⟨_, pss_cons (ps_set (i := 2) scTags.nd rfl (Or.inr rfl) (pe_lst (pa_cons pe_str (pa_cons pe_str (pa_cons pe_str (pa_cons pe_str (pa_cons pe_str (pa_cons pe_str (pa_cons pe_str (pa_cons pe_str (pa_cons pe_str pa_nil)))))))))))
      (pss_cons (ps_set (i := 2) scTags.nd rfl (Or.inr rfl) (pe_op op_cat (pv 2) (pe_lst (pa_cons pe_str (pa_cons pe_str (pa_cons pe_str (pa_cons pe_str (pa_cons pe_str (pa_cons pe_str (pa_cons pe_str pa_nil))))))))))
      (pss_one (ps_ret (pe_lc (te := tePop K) (own := [("_law_turn", 3)]) (g := gName 3) (tt := tYes) rfl scTags.nd (pi_range1 rfl mR (pa_cons (pv 1) pa_nil))
        (blkOk_by (N := ["_law_pen_here", "_law_many", "_law_pool", "_law_turn"]) (sc := defScope sTags) (by decide +kernel)) (fun _ _ _ _ _ => pg_name (i := 3) scTags.nd rfl (Or.inl rfl)) (fun _ _ _ _ _ => pts_nil)
        (fun s0 H0 C0 cl0 fp0 => by
          refine pe_bm PySem.F.plainAttrs_list PySem.F.slot_list_pop PySem.F.type_list_pop mt_popAt ?o ?a
          case o => exact pv 2
          case a =>
            refine pa_cons ?b pa_nil
            refine pe_call GD hr ?g mD FD.kp bD .nil pass0 ?c
            case g => rfl
            case c => exact pa_cons (pv 0) (pa_cons (pe_callB call_len_seq (by rfl) B.len PySem.boot_len (pa_cons (pv 2) pa_nil)) pa_nil)))))), ?_⟩
    refine ⟨(by show 9 ≤ sizeLine; decide), fun q1 h1 => ?_⟩
    refine ⟨_, rfl, (by show 7 ≤ sizeLine; decide), fun q2 h2 => ?_⟩
    have n12 : q1 ≠ q2 := ne_of_none upd_same h2
    refine ⟨q1, q2, _, _, rfl, rfl, (by rw [upd_ne n12]; exact upd_same), upd_same, (by show 9 + 7 ≤ sizeLine; decide), fun q3 h3 => ?_⟩
    have hHq1 : H q1 = none := h1
    have hHq2 : H q2 = none := by rw [upd_ne n12.symm] at h2; exact h2
    have n23 : q2 ≠ q3 := ne_of_none upd_same h3
    have n13 : q1 ≠ q3 := ne_of_none (by rw [upd_ne n12]; exact upd_same) h3
    have hHq3 : H q3 = none := by rw [upd_ne n23.symm, upd_ne n13.symm] at h3; exact h3
    have s3 : Same H (upd (upd (upd H q1 (.lst (poolA.map V.str))) q2 (.lst (poolB.map V.str))) q3 (.lst (poolS.map V.str))) := fun b o e => by
      rw [upd_ne (ne_of_none e hHq3), upd_ne (ne_of_none e hHq2), upd_ne (ne_of_none e hHq1)]
      exact e
    have key : ∀ D, upd (upd (upd H q1 (.lst (poolA.map V.str))) q2 (.lst (poolB.map V.str))) q3 (.lst (poolS.map V.str)) D = none → upd (upd (upd H q1 (.lst (poolA.map V.str))) q2 (.lst (poolB.map V.str))) q3 (.lst (poolS.map V.str)) D = none := fun _ z => z
    obtain ⟨i0', g0', hp0, hl0, hz0, hi0, hi1⟩ := id hP
    refine ⟨_, rfl, m, rfl, by omega, by omega, fun D hD0 => have hD := key D hD0; lc_range (n := m) (fun i H' => ∃ xs rest : List Str, xs.length = i ∧ (xs ++ rest).Perm poolS ∧ H' q3 = some (.lst (rest.map V.str)) ∧ H' D = some (.lst (xs.map V.str)) ∧ Pen H' p l cs (n + i) ∧ But H H' p) ?_ ?_ ?_⟩
    · have n3D : q3 ≠ D := ne_of_none upd_same hD
      have s4 : Same H (upd (upd (upd (upd H q1 (.lst (poolA.map V.str))) q2 (.lst (poolB.map V.str))) q3 (.lst (poolS.map V.str))) D (.lst [])) := fun b o e => by
        rw [upd_ne (ne_of_none (s3 _ _ e) hD)]
        exact s3 _ _ e
      exact ⟨[], poolS, rfl, List.Perm.refl _, Eq.trans (upd_ne n3D) upd_same, upd_same, hP.same s4, fun b o _ e => s4 _ _ e⟩
    · rintro i H' hi ⟨xs, rest, hx, hperm, hq, hD', hP', hB⟩
      have hlen : xs.length + rest.length = 16 := by
        have q := hperm.length_eq
        rw [List.length_append] at q
        exact q
      have n3p : q3 ≠ p := fun e => by rw [e, hp0] at hHq3; cases hHq3
      have nDp : D ≠ p := fun e => by rw [e, s3 _ _ hp0] at hD; cases hD
      have nD3 : D ≠ q3 := fun e => by rw [e, upd_same] at hD; cases hD
      refine ⟨rfl, ?_⟩
      unfold tYes
      dsimp only
      rw [if_pos rfl]
      refine ⟨_, rfl, .inl ⟨rfl, _, SqL.of hq⟩, _, rfl, _, rfl, q3, _, rfl, .inl (SqL.of hq), p, l, cs, n + i, _, rfl, hP', ?_, ?_, by omega, fun d iz g H2 d0 d1 i0 i1 hp2 b2 => ?_⟩
      · rw [List.length_map]; omega
      · rw [List.length_map]; omega
      · rw [List.length_map] at d1
        have hq2 : H2 q3 = some (.lst (rest.map V.str)) := b2 _ _ n3p hq
        have hD2 : H2 D = some (.lst (xs.map V.str)) := b2 _ _ nDp hD'
        have hk : d.toNat < rest.length := by omega
        refine ⟨q3, rest.map V.str, d, d.toNat, .str rest[d.toNat], rfl, rfl, hq2, by omega, by omega, seqIndex_of d0 (by rw [List.length_map]; omega), by simp [hk], xs.map V.str, ?_, ?_, ?_⟩
        · exact Eq.trans (upd_ne nD3) hD2
        · rw [List.length_map]; exact Nat.lt_of_le_of_lt (show xs.length ≤ 16 by omega) (by decide)
        · refine ⟨xs ++ [rest[d.toNat]], rest.eraseIdx d.toNat, by rw [List.length_append, hx]; rfl, ?_, ?_, ?_, ?_, ?_⟩
          · refine List.Perm.trans ?_ hperm
            rw [List.append_assoc]
            exact List.Perm.append_left _ (perm_erase rest _ hk)
          · rw [upd_ne nD3.symm, upd_same]
            congr 2
            exact (map_erase V.str rest d.toNat)
          · rw [upd_same, List.map_append]
            rfl
          · have hl' : ∃ i g, H' p = some (penO l i g) ∧ H' l = some (.lst (cs.map V.int)) := by
              obtain ⟨a, b, c, d, _⟩ := hP'
              exact ⟨a, b, c, d⟩
            obtain ⟨ia, ga, hpa, hla⟩ := hl'
            have n3l : q3 ≠ l := fun e => by rw [e, hl0] at hHq3; cases hHq3
            have nDl : D ≠ l := fun e => by rw [e, s3 _ _ hl0] at hD; cases hD
            have npl : l ≠ p := fun e => by
              subst e
              rw [hp0] at hl0
              have z := List.map_eq_cons_iff.mp (HO.lst.inj (Option.some.inj hl0)).symm
              obtain ⟨_, _, _, w1, _⟩ := z
              cases w1
            refine ⟨iz, g, ?_, ?_, hz0, i0, by omega⟩
            · rw [upd_ne nDp.symm, upd_ne n3p.symm]; exact hp2
            · rw [upd_ne nDl.symm, upd_ne n3l.symm]; exact b2 _ _ npl hla
          · intro b o hb e
            have e1 := hB b o hb e
            have nb3 : b ≠ q3 := ne_of_none e hHq3
            have nbD : b ≠ D := fun z => by rw [z] at e; rw [s3 _ _ e] at hD; cases hD
            rw [upd_ne nbD, upd_ne nb3]
            exact b2 _ _ hb e1
    · rintro H' ⟨xs, rest, hx, hperm, hq, hD', hP', hB⟩
      have hHD : H D = none := by
        cases e : H D with
        | none => rfl
        | some o => rw [s3 _ _ e] at hD; cases hD
      exact k H' D xs rest hHD hD' hx hperm hP' hB
end
end Sj
/-! texts in order: of one multitude there is one order -/
namespace OrdS
open PySem PySem.Spec PyProof.Rows
theorem lt_anti : ∀ a b : List Nat, ltCps a b = false → ltCps b a = false → a = b
  | [], [], _, _ => rfl
  | [], _ :: _, h, _ => by cases h
  | _ :: _, [], _, h => by cases h
  | x :: a, y :: b, h, g => by
    have h1 : (decide (x < y) || (x == y && ltCps a b)) = false := h
    have g1 : (decide (y < x) || (y == x && ltCps b a)) = false := g
    rw [Bool.or_eq_false_iff, decide_eq_false_iff_not] at h1 g1
    have e : x = y := by omega
    subst e
    rw [beq_self_eq_true, Bool.true_and] at h1 g1
    rw [lt_anti a b h1.2 g1.2]
theorem le_trans : ∀ a b c : List Nat, ltCps b a = false → ltCps c b = false → ltCps c a = false
  | [], _, [], _, _ => rfl
  | [], [], _ :: _, _, _ => rfl
  | [], _ :: _, _ :: _, _, _ => rfl
  | _ :: _, [], _, h, _ => by cases h
  | _ :: _, _ :: _, [], _, h => by cases h
  | x :: a, y :: b, z :: c, h, g => by
    have h1 : (decide (y < x) || (y == x && ltCps b a)) = false := h
    have g1 : (decide (z < y) || (z == y && ltCps c b)) = false := g
    show (decide (z < x) || (z == x && ltCps c a)) = false
    rw [Bool.or_eq_false_iff, decide_eq_false_iff_not] at h1 g1 ⊢
    refine ⟨by omega, ?_⟩
    by_cases e : z = x
    · have e2 : y = x := by omega
      subst e2
      subst e
      rw [beq_self_eq_true, Bool.true_and] at h1 g1 ⊢
      exact le_trans a b c h1.2 g1.2
    · rw [beq_eq_false_iff_ne.mpr e, Bool.false_and]
def Le (a b : Str) : Prop := ltCps b.cps.toList a.cps.toList = false
theorem Le.anti {a b : Str} (h : Le a b) (g : Le b a) : a = b := by
  have e := lt_anti _ _ g h
  cases a
  cases b
  congr 1
  exact Array.ext' e
theorem Le.trans {a b c : Str} (h : Le a b) (g : Le b c) : Le a c := le_trans _ _ _ h g
theorem rising_pw : ∀ (l : List Str) (p : Str), risingS p l = true → (p :: l).Pairwise Le
  | [], p, _ => List.pairwise_singleton _ _
  | x :: r, p, h => by
    have h1 : (!ltCps x.cps.toList p.cps.toList && risingS x r) = true := h
    rw [Bool.and_eq_true, Bool.not_eq_true'] at h1
    have ih := rising_pw r x h1.2
    refine List.pairwise_cons.mpr ⟨fun y hy => ?_, ih⟩
    rcases List.mem_cons.mp hy with rfl | hy
    · exact h1.1
    · exact Le.trans h1.1 ((List.pairwise_cons.mp ih).1 y hy)
theorem sorted_pw : ∀ {l : List Str}, sortedS l = true → l.Pairwise Le
  | [], _ => .nil
  | x :: r, h => rising_pw r x h
theorem pw_uniq : ∀ {ys zs : List Str}, ys.Perm zs → ys.Pairwise Le → zs.Pairwise Le → ys = zs
  | [], zs, hp, _, _ => (List.Perm.eq_nil hp.symm).symm
  | y :: ys, [], hp, _, _ => by cases List.Perm.eq_nil hp
  | y :: ys, z :: zs, hp, hy, hz => by
    have hy' := List.pairwise_cons.mp hy
    have hz' := List.pairwise_cons.mp hz
    have m1 : y ∈ z :: zs := hp.mem_iff.mp List.mem_cons_self
    have m2 : z ∈ y :: ys := hp.mem_iff.mpr List.mem_cons_self
    have e : y = z := by
      rcases List.mem_cons.mp m1 with e | m1
      · exact e
      · rcases List.mem_cons.mp m2 with e | m2
        · exact e.symm
        · exact (hy'.1 z m2).anti (hz'.1 y m1)
    subst e
    rw [pw_uniq hp.cons_inv hy'.2 hz'.2]
theorem uniq {ys zs : List Str} (hp : ys.Perm zs) (hy : sortedS ys = true) (hz : sortedS zs = true) : ys = zs := pw_uniq hp (sorted_pw hy) (sorted_pw hz)
end OrdS
namespace Sj
open PySem L2 Sup StK Own
open NdefX (NF NScope ncx envF startF nscope_by)
open C8 (pss_cut tCut)
/-! what the laws of frames share: small things, _law_bare (k03, k05, ..) -/
/-- a class of legs, made by place -/
structure MkL (P : Program) (w : World) (K : PySem.W.Frag) (mg : Str → Option Value) (base : Heap) (CI C : Addr) (nm : Str) : Prop where
  ex : ∃ (f : Addr) (fd : FuncData), Mk K C f ∧ FnOk P w K mg base (L2.CX P w) 4 f fd ["self", "name"] (spLegI K CI C) ∧ Binds K fd ["self", "name"] []
  mg : mg nm = some (.ref C)
theorem passNo {P : Program} {w : World} {X : Cx} (h1 : X.prog = P) (h2 : X.w = w) : Passes (L2.CX P w) X E0 := by
  rintro pins σ H s e s' I ⟨a, B, H', cls, d, _, _, _, _, _, _, _, z⟩
  exact z.elim
abbrev tMk (K : PySem.W.Frag) (CI C : Addr) (te : TE) : TE := tMake C (spLegI K CI C) [] E0 (tCons te tNil)
/-- a leg is made -/
theorem mk_rd {K : PySem.W.Frag} {CI C : Addr} {z : Str} {te : TE} {σ : L2.St} {H : Hp} {Q : VK} (hte : ∀ Q' : VK, Q' (.str z) H → te σ H Q') (hn : isName z = true) (hz : z.length ≤ 1000) (k : ∀ a H', H a = none → LegAt H' a C z → Same H H' → Q (.ref a) H') : tMk K CI C te σ H Q := by
  refine hte _ fun x dx hx hdx hne => ⟨x, dx, .str z, rfl, upd_same, .inl ⟨z, rfl, hz, fun _ H' hp hb => ⟨rfl, k x H' hx ⟨dx, hp⟩ fun b o e => ?_⟩, fun h => absurd hn (by rw [h]; exact Bool.false_ne_true)⟩⟩
  refine hb b o (ne_of_none e hx) ?_
  rw [upd_ne (ne_of_none e hx), upd_ne (ne_of_none e hdx)]
  exact e
theorem Pen.at' {H : Hp} {p l : Addr} {cs : List Int} {n : Nat} (h : Pen H p l cs n) : ∃ xs, H p = some (.lst xs) := by
  obtain ⟨i, g, h1, _⟩ := h
  exact ⟨_, h1⟩
theorem Pen.mono {H : Hp} {p l : Addr} {cs : List Int} {n m : Nat} (h : Pen H p l cs n) (hm : n ≤ m) : Pen H p l cs m := by
  obtain ⟨i, g, h1, h2, h3, h4, h5⟩ := h
  exact ⟨i, g, h1, h2, h3, h4, by omega⟩
theorem But.same {H H1 H2 : Hp} {p : Addr} (a : But H H1 p) (s : Same H1 H2) : But H H2 p := fun b o hb e => s _ _ (a b o hb e)
theorem But.of {H H1 : Hp} {p : Addr} (s : Same H H1) : But H H1 p := fun b o _ e => s _ _ e
/-- what was laid behind the entry is not the pen -/
theorem nep {H0 : Hp} {p l q : Addr} {cs : List Int} {n : Nat} (hP : Pen H0 p l cs n) (h : H0 q = none) : q ≠ p := fun e => by
  obtain ⟨xs, z⟩ := hP.at'
  rw [e, z] at h
  cases h
theorem But.free {H H' : Hp} {p q : Addr} (b : But H H' p) (hp : q ≠ p) (h : H' q = none) : H q = none := by
  cases z : H q with
  | none => rfl
  | some o =>
    rw [b _ _ hp z] at h
    cases h
/-- the pen is a list: what is none of these stays -/
theorem But.keep {H H' : Hp} {p l q : Addr} {cs : List Int} {n : Nat} {o : HO} (b : But H H' p) (hP : Pen H p l cs n) (e : H q = some o) (no : ∀ ys, o ≠ .lst ys) : H' q = some o := by
  obtain ⟨xs, hp⟩ := hP.at'
  exact b _ _ (ne_of e hp (no xs)) e
structure DwT (P : Program) (w : World) (K : PySem.W.Frag) (mg : Str → Option Value) (base : Heap) : Prop where
  bi : Bi mg
  sorted : mg "sorted" = none
  draw : ∃ f fd, mg "_law_draw" = some (.ref f) ∧ PySem.W.keepIn K (.ref f) = true ∧ Binds K fd ["_law_pen_here", "_law_many"] [] ∧ FnOk P w K mg base CX0 1 f fd ["_law_pen_here", "_law_many"] spDraw
  pick : ∃ f fd, mg "_law_pick" = some (.ref f) ∧ PySem.W.keepIn K (.ref f) = true ∧ Binds K fd ["_law_pen_here", "_law_some"] [] ∧ FnOk P w K mg base CX0 2 f fd ["_law_pen_here", "_law_some"] spPick
  tags : ∃ f fd, mg "_law_tags" = some (.ref f) ∧ PySem.W.keepIn K (.ref f) = true ∧ Binds K fd ["_law_pen_here", "_law_many"] [] ∧ FnOk P w K mg base CX0 2 f fd ["_law_pen_here", "_law_many"] spTags
/-- a plain frame as data -/
structure BareD where
  t : Int
  ds : List Str
  ls : List Str
  g : Bool
  r : Bool
structure BareD.ok (d : BareD) : Prop where
  t1 : 1 ≤ d.t
  t3 : d.t ≤ 3
  nd : (d.ds ++ d.ls).Nodup
  po : ∀ z ∈ d.ds ++ d.ls, z ∈ poolS
  sd : d.ds.Pairwise OrdS.Le
  sl : d.ls.Pairwise OrdS.Le
  le : d.ds.length + d.ls.length ≤ 16
def rowsB (t : Int) (dl ll rl : Addr) : List (Key × V) := [(Sum.inr "top", .int t), (Sum.inr "drivers", .ref dl), (Sum.inr "listeners", .ref ll), (Sum.inr "rails", .ref rl)]
def rows3 (t : Int) (dl ll : Addr) : List (Key × V) := [(Sum.inr "top", .int t), (Sum.inr "drivers", .ref dl), (Sum.inr "listeners", .ref ll)]
/-- it stands at b, apart from p -/
structure BareAt (H : Hp) (b : Addr) (d : BareD) (p : Addr) : Prop where
  ex : ∃ dl ll rl, H b = some (.dK (rowsB d.t dl ll rl)) ∧ H dl = some (.lst (strv d.ds)) ∧ H ll = some (.lst (strv d.ls)) ∧ H rl = some (.lst (strv (railsZ d.g d.r))) ∧ dl ≠ p ∧ ll ≠ p ∧ rl ≠ p
theorem BareAt.same {H H' : Hp} {b p : Addr} {d : BareD} (h : BareAt H b d p) (s : Same H H') : BareAt H' b d p := by
  obtain ⟨dl, ll, rl, h1, h2, h3, h4, h5⟩ := h.ex
  exact ⟨dl, ll, rl, s _ _ h1, s _ _ h2, s _ _ h3, s _ _ h4, h5⟩
theorem BareAt.but {H H' : Hp} {b p l : Addr} {cs : List Int} {n : Nat} {d : BareD} (h : BareAt H b d p) (hP : Pen H p l cs n) (s : But H H' p) : BareAt H' b d p := by
  obtain ⟨dl, ll, rl, h1, h2, h3, h4, h5, h6, h7⟩ := h.ex
  exact ⟨dl, ll, rl, s.keep hP h1 (fun ys z => by cases z), s _ _ h5 h2, s _ _ h6 h3, s _ _ h7 h4, h5, h6, h7⟩
theorem pool_ok : ∀ z ∈ poolS, isName z = true ∧ z.length ≤ 8 := by
  have h : (poolS.all fun z => isName z && decide (z.length ≤ 8)) = true := by decide +kernel
  intro z hz
  have e := List.all_eq_true.mp h z hz
  rw [Bool.and_eq_true, decide_eq_true_eq] at e
  exact e
theorem pool_nd : poolS.Nodup := by decide +kernel
abbrev sBare : Stmt := top 33
abbrev nBa : List Str := ["_law_pen_here", "_law_most", "_law_tags_here", "_law_bare_here", "_law_tag", "_law_kind"]
theorem scBa : FnScope nBa ["_law_pen_here", "_law_most"] (defScope sBare) := ⟨rfl, rfl, rfl, by decide +kernel, rfl, by decide +kernel, by decide +kernel⟩
def spBare : Sp := fun vs H Q _ => ∃ (p l : Addr) (cs : List Int) (n m : Nat), vs = [.ref p, .int m] ∧ Pen H p l cs n ∧ m ≤ 15 ∧ n < 90000 ∧ ∀ b d H', d.ok → d.ds.length + d.ls.length ≤ m → H b = none → BareAt H' b d p → Pen H' p l cs (n + 40) → But H H' p → Q (.ref b) H'
/-- where the loop stands -/
structure BaInv (H0 H : Hp) (p l : Addr) (cs : List Int) (n : Nat) (b dl ll sl : Addr) (t : Int) (xs : List Str) (i : Nat) : Prop where
  pen : Pen H p l cs (n + i)
  hb : H b = some (.dK (rows3 t dl ll))
  sl_ : H sl = some (.lst (strv xs))
  ex : ∃ ds ls, H dl = some (.lst (strv ds)) ∧ H ll = some (.lst (strv ls)) ∧ ds.Sublist (xs.take i) ∧ ls.Sublist (xs.take i) ∧ (ds ++ ls).Perm (xs.take i)
  bt : But H0 H p
theorem sub_snoc {α : Type} {ds xs : List α} {i : Nat} (h : ds.Sublist (xs.take i)) (hi : i < xs.length) : (ds ++ [xs[i]]).Sublist (xs.take (i + 1)) := by
  rw [List.take_add_one, List.getElem?_eq_getElem hi]
  exact h.append (List.Sublist.refl _)
theorem sub_keep {α : Type} {ds xs : List α} {i : Nat} (h : ds.Sublist (xs.take i)) (hi : i < xs.length) : ds.Sublist (xs.take (i + 1)) := by
  rw [List.take_add_one]
  exact h.trans (List.sublist_append_left _ _)
end Sj
namespace Sj
open PySem L2 Sup StK Own
open NdefX (NF NScope ncx envF startF nscope_by)
open C8 (pss_cut tCut)
/-! _law_bare -/
theorem rows3_merge (t : Int) (dl ll : Addr) : mergeK [] (rows3 t dl ll) = rows3 t dl ll := by
  unfold rows3 mergeK putK
  simp +decide
theorem rows3_put (t : Int) (dl ll rl : Addr) : putK (rows3 t dl ll) (Sum.inr "rails" : Key) (.ref rl) = rowsB t dl ll rl := by
  unfold rows3 rowsB putK
  simp +decide
section
variable {P : Program} {w : World} {K : PySem.W.Frag} {mg : Str → Option Value} {base : Heap}
theorem ok_bare {f : Addr} {fd : FuncData} (F : Fun K "_law_bare" "_law_bare" sBare f fd) (T : DwT P w K mg base) : FnOk P w K mg base CX0 3 f fd ["_law_pen_here", "_law_most"] spBare := by
  obtain ⟨fd_, fdd, md, kd, bd, Gd⟩ := T.draw
  obtain ⟨fp, fdp, mp, kp, bp, Gp⟩ := T.pick
  obtain ⟨ft, fdt, mt, kt, bt, Gt⟩ := T.tags
  refine F.ok scBa (fun vs H Q E h => ?_) (fun cdv A outer s H vs Q E hr h => ?_)
  · obtain ⟨p, l, cs, n, m, rfl, _⟩ := h
    rfl
  · obtain ⟨p, l, cs, n, m, rfl, hP, hm, hn, k⟩ := h
    have hr1 := hr.mono (show 1 ≤ 2 by decide)
    refine ⟨_, pss_cons (ps_set (i := 2) scBa.nd rfl (Or.inl rfl) (pe_call Gt hr rfl mt kt bt .nil pass0 (pa_cons (pv 0) (pa_cons (pe_call Gd hr1 rfl md kd bd .nil pass0 (pa_cons (pv 0) (pa_cons (pe_op op_add (pv 1) pe_int) pa_nil))) pa_nil))))
      (pss_cons (ps_set (i := 3) scBa.nd rfl (Or.inl rfl) (pe_disp (pps_cons pe_str (pe_op op_add pe_int (pe_call Gd hr1 rfl md kd bd .nil pass0 (pa_cons (pv 0) (pa_cons pe_int pa_nil)))) (pps_cons pe_str (pe_lst pa_nil) (pps_cons pe_str (pe_lst pa_nil) pps_nil))) (by rfl) (by rfl) (fun z => by cases z) (by decide)))
      (pss_cons (ps_for PassesOwn.never rfl (pi_list (pe_callB cr_sortedS (by rfl) T.sorted (by decide +kernel) (pa_cons (pv 2) pa_nil))) (pg_name (i := 4) scBa.nd rfl (Or.inl rfl))
        (pss_cons (ps_set (i := 5) scBa.nd rfl (Or.inl rfl) (pe_call Gp hr rfl mp kp bp .nil pass0 (pa_cons (pv 0) (pa_cons (pe_lst (pa_cons pe_str (pa_cons pe_str (pa_cons pe_str (pa_cons pe_str pa_nil))))) pa_nil))))
        (pss_one (ps_expr (pe_bm PySem.F.plainAttrs_list PySem.F.slot_list_append PySem.F.type_list_append mt_append (pe_dget (hu_of hr) (pv 3) (pv 5) (fun _ _ => rfl)) (pa_cons (pv 4) pa_nil))))))
      (pss_cons (ps_dput (hu_of hr) (pv 3) pe_str (pe_call Gp hr rfl mp kp bp .nil pass0 (pa_cons (pv 0) (pa_cons (pe_lst (pa_cons (pe_lst pa_nil) (pa_cons (pe_lst pa_nil) (pa_cons (pe_lst (pa_cons pe_str pa_nil)) (pa_cons (pe_lst (pa_cons pe_str pa_nil)) (pa_cons (pe_lst (pa_cons pe_str (pa_cons pe_str pa_nil))) pa_nil)))))) pa_nil))) rfl)
      (pss_one (ps_ret (pv 3)))))), ?_⟩
    -- the names
    refine ⟨_, rfl, _, rfl, _, rfl, (m : Int), 1, rfl, rfl, p, l, cs, n, (m : Int) + 1, rfl, hP, by omega, by omega, by omega, fun d1 i1 g1 H1 d0 dm i0 in1 hp1 b1 => ?_⟩
    have P1 : Pen H1 p l cs (n + 1) := hP.next i0 in1 hp1 b1
    obtain ⟨q, rfl⟩ : ∃ q : Nat, d1 = (q : Int) := ⟨d1.toNat, by omega⟩
    refine ⟨p, l, cs, n + 1, q, rfl, P1, by omega, by omega, fun H2 tl zs rest htl htl2 hlen hperm P2 b2 => ?_⟩
    have b02 := b1.trans b2
    have tlp : tl ≠ p := nep P1 htl
    have hpool : ∀ z ∈ zs, z ∈ poolS := fun z hz => hperm.mem_iff.mp (List.mem_append_left _ hz)
    have hndz : zs.Nodup := by
      have := hperm.nodup_iff.mpr pool_nd
      rw [List.nodup_append] at this
      exact this.1
    have tl0 : H tl = none := b1.free tlp htl
    -- the dict
    refine fun b hb => ?_
    have b0 : H b = none := b02.free (nep P2 hb) hb
    have P2b : Pen (upd H2 b (.dK [])) p l cs (n + 1 + q) := P2.same (same_at hb)
    refine ⟨_, rfl, p, l, cs, n + 1 + q, 3, rfl, P2b, by omega, by omega, by omega, fun d3 i3 g3 H3 d30 d33 i30 in3 hp3 b3 => ?_⟩
    have P3 : Pen H3 p l cs (n + 2 + q) := (P2b.next i30 in3 hp3 b3).mono (by omega)
    have hb3 : H3 b = some (.dK []) := b3.keep P2b upd_same (fun ys z => by cases z)
    have htl3 : H3 tl = some (.lst (strv zs)) := b3 _ _ tlp (same_at hb _ _ htl2)
    have b03 : But H H3 p := (b02.same (same_at hb)).trans b3
    refine ⟨1, d3, rfl, rfl, by show 0 ≤ sizeLine; decide, fun dl hdl => ⟨by show 0 ≤ sizeLine; decide, fun ll hll => ?_⟩⟩
    obtain ⟨H5, e5⟩ : ∃ H5, H5 = upd (upd H3 dl (.lst [])) ll (.lst []) := ⟨_, rfl⟩
    rw [← e5]
    have s35 : Same H3 H5 := by rw [e5]; exact (same_at hdl).trans (same_at hll)
    have hll0 : H3 ll = none := (same_at (o := .lst []) hdl).free hll
    have nld : ll ≠ dl := fun z => by rw [z, upd_same] at hll; cases hll
    have hdl5 : H5 dl = some (.lst (strv [])) := by rw [e5, upd_ne (Ne.symm nld), upd_same]; rfl
    have hll5 : H5 ll = some (.lst (strv [])) := by rw [e5, upd_same]; rfl
    have dlp : dl ≠ p := nep P3 hdl
    have llp : ll ≠ p := nep P3 hll0
    have dl0 : H dl = none := b03.free dlp hdl
    have ll0 : H ll = none := b03.free llp hll0
    have nbd : b ≠ dl := ne_of_none hb3 hdl
    have nbl : b ≠ ll := ne_of_none hb3 hll0
    refine ⟨s35 _ _ hb3, rows3 (1 + d3) dl ll, rfl, by show 3 ≤ 15; decide, ?_⟩
    rw [rows3_merge]
    obtain ⟨H6, e6⟩ : ∃ H6, H6 = upd H5 b (.dK (rows3 (1 + d3) dl ll)) := ⟨_, rfl⟩
    rw [← e6]
    have hb6 : H6 b = some (.dK (rows3 (1 + d3) dl ll)) := by rw [e6, upd_same]
    have ne6 : ∀ {c : Addr} {o : HO}, H5 c = some o → c ≠ b → H6 c = some o := fun e n => by rw [e6, upd_ne n]; exact e
    have P6 : Pen H6 p l cs (n + 2 + q) := by
      obtain ⟨i, g, h1, h2, h3⟩ := P3
      exact ⟨i, g, ne6 (s35 _ _ h1) (ne_of h1 hb3 (by intro z; cases z)), ne6 (s35 _ _ h2) (ne_of h2 hb3 (by intro z; cases z)), h3⟩
    have b06 : But H H6 p := fun c o hc e => ne6 (s35 _ _ (b03 c o hc e)) (ne_of_none e b0)
    have htl6 : H6 tl = some (.lst (strv zs)) := ne6 (s35 _ _ htl3) (ne_of htl3 hb3 (by intro z; cases z))
    have hdl6 := ne6 hdl5 (Ne.symm nbd)
    have hll6 := ne6 hll5 (Ne.symm nbl)
    -- sorted
    refine ⟨_, rfl, tl, zs, rfl, SqL.of htl6, by omega, fun xs sl hxs hso hsl => ?_⟩
    have s67 := same_at (o := .lst (xs.map V.str)) hsl
    obtain ⟨H7, e7⟩ : ∃ H7, H7 = upd H6 sl (.lst (xs.map V.str)) := ⟨_, rfl⟩
    have hsl7 : H7 sl = some (.lst (strv xs)) := by rw [e7, upd_same]; rfl
    rw [← e7] at s67 ⊢
    have slp : sl ≠ p := nep P6 hsl
    have sl0 : H sl = none := b06.free slp hsl
    have nsd : sl ≠ dl := Ne.symm (ne_of_none hdl6 hsl)
    have nsl : sl ≠ ll := Ne.symm (ne_of_none hll6 hsl)
    have hxl : xs.length = q := by rw [hxs.length_eq, hlen]
    have hxl2 : (strv xs).length = xs.length := List.length_map _
    refine ⟨sl, rfl, ⟨_, SqL.of hsl7⟩, for_list (xs := strv xs) (fun i σ H' => (∃ o4 o5, σ = [some (.ref p), some (.int m), some (.ref tl), some (.ref b), o4, o5]) ∧ BaInv H H' p l cs (n + 2 + q) b dl ll sl (1 + d3) xs i) ⟨⟨_, _, rfl⟩, ⟨P6.same s67, s67 _ _ hb6, hsl7, ⟨[], [], s67 _ _ hdl6, s67 _ _ hll6, List.nil_sublist _, List.nil_sublist _, .nil⟩, b06.same s67⟩⟩ (fun i σ H' _ h => SqL.of h.2.sl_) ?_ ?_⟩
    · rintro i x σ H8 hx ⟨⟨o4, o5, rfl⟩, ⟨P8, hb8, hsl8, ⟨ds, ls, hds, hls, sds, sls, hper⟩, b08⟩⟩
      have hi' : i < xs.length := by rw [← hxl2]; exact (List.getElem?_eq_some_iff.mp hx).1
      have ex : (strv xs)[i]? = some (.str xs[i]) := by show (xs.map V.str)[i]? = _; rw [List.getElem?_map, List.getElem?_eq_getElem hi']; rfl
      rw [ex] at hx
      obtain rfl := Option.some.inj hx
      refine ⟨_, rfl, by show 4 ≤ sizeLine; decide, fun w4 hw4 => ?_⟩
      have s89 := same_at (o := .lst [V.str "drivers", .str "drivers", .str "drivers", .str "listeners"]) hw4
      refine ⟨p, l, w4, cs, n + 2 + q + i, _, rfl, P8.same s89, upd_same, nep P8 hw4, by show 0 < 4; decide, by show 4 < 1000; decide, by omega, fun j y H10 hj P10 b10 => ?_⟩
      have b810 : But H8 H10 p := (But.of s89).trans b10
      have hdsl : ds.length ≤ xs.length := Nat.le_trans sds.length_le (by rw [List.length_take]; omega)
      have hlsl : ls.length ≤ xs.length := Nat.le_trans sls.length_le (by rw [List.length_take]; omega)
      have hb10 := b810.keep P8 hb8 (fun ys z => by cases z)
      have hsl10 := b810 _ _ slp hsl8
      have hds10 := b810 _ _ dlp hds
      have hls10 := b810 _ _ llp hls
      have hyy : y = .str "drivers" ∨ y = .str "listeners" := by
        match j, hj with
        | 0, hj => exact .inl (Option.some.inj hj).symm
        | 1, hj => exact .inl (Option.some.inj hj).symm
        | 2, hj => exact .inl (Option.some.inj hj).symm
        | 3, hj => exact .inr (Option.some.inj hj).symm
      have hpt : xs.take (i + 1) = xs.take i ++ [xs[i]] := by rw [List.take_add_one, List.getElem?_eq_getElem hi']; rfl
      rcases hyy with rfl | rfl
      · refine ⟨_, rfl, _, rfl, b, _, rfl, DGet.k (k := Sum.inr "drivers") hb10, ?_⟩
        refine ⟨.inl ⟨rfl, _, SqL.of hds10⟩, _, rfl, dl, _, _, rfl, rfl, hds10, ?_, ⟨⟨_, _, rfl⟩, ?_⟩⟩
        · show (List.map _ ds).length < _
          rw [List.length_map]
          exact Nat.lt_of_le_of_lt (show ds.length ≤ 16 by omega) (by decide)
        · refine ⟨?_, by rw [upd_ne nbd]; exact hb10, by rw [upd_ne nsd]; exact hsl10, ⟨ds ++ [xs[i]], ls, ?_, by rw [upd_ne nld]; exact hls10, sub_snoc sds hi', sub_keep sls hi', ?_⟩, fun c o hc e => ?_⟩
          · obtain ⟨i', g', h1, h2, h3⟩ := P10
            refine ⟨i', g', by rw [upd_ne (Ne.symm dlp)]; exact h1, ?_, h3.1, h3.2.1, by omega⟩
            rw [upd_ne (fun z => ?_)]
            · exact h2
            · obtain ⟨i0', g0', q1, q2, _⟩ := hP
              rw [z, dl0] at q2
              cases q2
          · rw [upd_same]
            show _ = some (HO.lst (List.map V.str _))
            rw [List.map_append]
            rfl
          · rw [hpt, List.append_assoc]
            refine List.Perm.trans ?_ (hper.append_right [xs[i]])
            rw [List.append_assoc]
            exact List.Perm.append_left ds List.perm_append_comm
          · rw [upd_ne (ne_of_none e dl0)]
            exact (b08.trans b810) c o hc e
      · refine ⟨_, rfl, _, rfl, b, _, rfl, DGet.k (k := Sum.inr "listeners") hb10, ?_⟩
        refine ⟨.inl ⟨rfl, _, SqL.of hls10⟩, _, rfl, ll, _, _, rfl, rfl, hls10, ?_, ⟨⟨_, _, rfl⟩, ?_⟩⟩
        · show (List.map _ ls).length < _
          rw [List.length_map]
          exact Nat.lt_of_le_of_lt (show ls.length ≤ 16 by omega) (by decide)
        · refine ⟨?_, by rw [upd_ne nbl]; exact hb10, by rw [upd_ne nsl]; exact hsl10, ⟨ds, ls ++ [xs[i]], by rw [upd_ne (Ne.symm nld)]; exact hds10, ?_, sub_keep sds hi', sub_snoc sls hi', ?_⟩, fun c o hc e => ?_⟩
          · obtain ⟨i', g', h1, h2, h3⟩ := P10
            refine ⟨i', g', by rw [upd_ne (Ne.symm llp)]; exact h1, ?_, h3.1, h3.2.1, by omega⟩
            rw [upd_ne (fun z => ?_)]
            · exact h2
            · obtain ⟨i0', g0', q1, q2, _⟩ := hP
              rw [z, ll0] at q2
              cases q2
          · rw [upd_same]
            show _ = some (HO.lst (List.map V.str _))
            rw [List.map_append]
            rfl
          · rw [hpt, ← List.append_assoc]
            exact hper.append_right [xs[i]]
          · rw [upd_ne (ne_of_none e ll0)]
            exact (b08.trans b810) c o hc e
    · rintro σ H8 ⟨⟨o4, o5, rfl⟩, ⟨P8, hb8, hsl8, ⟨ds, ls, hds, hls, sds, sls, hper⟩, b08⟩⟩
      rw [hxl2, List.take_length] at sds sls hper
      have hlist : ∀ (H9 : Hp) (r0 r1 r2 r3 r4 L : Addr), Pen H9 p l cs (n + 2 + q + (strv xs).length) → But H8 H9 p → H9 r0 = some (.lst (strv [])) → H9 r1 = some (.lst (strv [])) → H9 r2 = some (.lst (strv ["ground"])) → H9 r3 = some (.lst (strv ["power"])) → H9 r4 = some (.lst (strv ["ground", "power"])) →
          r0 ≠ p → r1 ≠ p → r2 ≠ p → r3 ≠ p → r4 ≠ p → L ≠ p → H9 L = some (.lst [.ref r0, .ref r1, .ref r2, .ref r3, .ref r4]) →
          spPick [.ref p, .ref L] H9 (fun v H1 => tVar 3 [some (.ref p), some (.int m), some (.ref tl), some (.ref b), o4, o5] H1 fun x H2 => ∃ a H4, x = .ref a ∧ DPut H2 a (.str "rails") v H4 ∧ tVar 3 [some (.ref p), some (.int m), some (.ref tl), some (.ref b), o4, o5] H4 Q) E0 := by
        intro H9 r0 r1 r2 r3 r4 L P9 b89 h0 h1 h2 h3 h4 n0 n1 n2 n3 n4 nL hL
        refine ⟨p, l, L, cs, _, _, rfl, P9, hL, nL, by show 0 < 5; decide, by show 5 < 1000; decide, by rw [hxl2]; omega, fun j y H10 hj P10 b10 => ?_⟩
        obtain ⟨g, r, rl, rfl, hrl, hrp⟩ : ∃ g r rl, y = .ref rl ∧ H10 rl = some (.lst (strv (railsZ g r))) ∧ rl ≠ p := by
          match j, hj with
          | 0, hj => exact ⟨false, false, r0, (Option.some.inj hj).symm, b10 _ _ n0 h0, n0⟩
          | 1, hj => exact ⟨false, false, r1, (Option.some.inj hj).symm, b10 _ _ n1 h1, n1⟩
          | 2, hj => exact ⟨true, false, r2, (Option.some.inj hj).symm, b10 _ _ n2 h2, n2⟩
          | 3, hj => exact ⟨false, true, r3, (Option.some.inj hj).symm, b10 _ _ n3 h3, n3⟩
          | 4, hj => exact ⟨true, true, r4, (Option.some.inj hj).symm, b10 _ _ n4 h4, n4⟩
        have b810 := b89.trans b10
        have hb10 := b810.keep P8 hb8 (fun ys z => by cases z)
        refine ⟨_, rfl, b, _, rfl, DPut.k (k := Sum.inr "rails") hb10 (by show 3 < sizeLine; decide), _, rfl, ?_⟩
        rw [rows3_put]
        have hds10 := b810 _ _ dlp hds
        have hls10 := b810 _ _ llp hls
        have nrb : rl ≠ b := ne_of hrl hb10 (by intro z; cases z)
        refine k b ⟨1 + d3, ds, ls, g, r⟩ _ ⟨by show (1 : Int) ≤ 1 + d3; omega, by show (1 : Int) + d3 ≤ 3; omega, ?_, ?_, ?_, ?_, ?_⟩ ?_ b0 ⟨dl, ll, rl, upd_same, by rw [upd_ne (Ne.symm nbd)]; exact hds10, by rw [upd_ne (Ne.symm nbl)]; exact hls10, by rw [upd_ne nrb]; exact hrl, dlp, llp, hrp⟩ ?_ fun c o hc e => ?_
        · exact (hper.trans hxs).nodup_iff.mpr hndz
        · exact fun z hz => hpool z ((hper.trans hxs).mem_iff.mp hz)
        · exact (OrdS.sorted_pw hso).sublist sds
        · exact (OrdS.sorted_pw hso).sublist sls
        · have := hper.length_eq
          rw [List.length_append] at this
          show ds.length + ls.length ≤ 16
          omega
        · have := hper.length_eq
          rw [List.length_append] at this
          show ds.length + ls.length ≤ m
          omega
        · obtain ⟨i', g', q1, q2, q3⟩ := P10
          rw [hxl2, hxl] at q3
          exact ⟨i', g', by rw [upd_ne (ne_of q1 hb10 (by intro z; cases z))]; exact q1, by rw [upd_ne (ne_of q2 hb10 (by intro z; cases z))]; exact q2, q3.1, q3.2.1, by omega⟩
        · rw [upd_ne (ne_of_none e b0)]
          exact (b08.trans b810) c o hc e
      refine ⟨_, rfl, by show 0 ≤ sizeLine; decide, fun r0 h0 => ⟨by show 0 ≤ sizeLine; decide, fun r1 h1 => ⟨by show 1 ≤ sizeLine; decide, fun r2 h2 => ⟨by show 1 ≤ sizeLine; decide, fun r3 h3 => ⟨by show 2 ≤ sizeLine; decide, fun r4 h4 => ⟨by show 5 ≤ sizeLine; decide, fun L hL => ?_⟩⟩⟩⟩⟩⟩
      have t0 := same_at (o := .lst []) h0
      have t1 := same_at (o := .lst []) h1
      have t2 := same_at (o := .lst [.str "ground"]) h2
      have t3 := same_at (o := .lst [.str "power"]) h3
      have t4 := same_at (o := .lst [.str "ground", .str "power"]) h4
      have tL := same_at (o := .lst [.ref r0, .ref r1, .ref r2, .ref r3, .ref r4]) hL
      have t34 := t4.trans tL
      have t24 := t3.trans t34
      have t14 := t2.trans t24
      have t04 := t1.trans t14
      exact hlist _ r0 r1 r2 r3 r4 L (P8.same (t0.trans t04)) (But.of (t0.trans t04)) (t04 _ _ upd_same) (t14 _ _ upd_same) (t24 _ _ upd_same) (t34 _ _ upd_same) (tL _ _ upd_same) (nep P8 h0) (nep (P8.same t0) h1) (nep ((P8.same t0).same t1) h2) (nep (((P8.same t0).same t1).same t2) h3) (nep ((((P8.same t0).same t1).same t2).same t3) h4) (nep (((((P8.same t0).same t1).same t2).same t3).same t4) hL) upd_same
end
end Sj
namespace Sj
open PySem L2 Sup StK Own
open NdefX (NF NScope ncx envF startF nscope_by)
open C8 (pss_cut tCut)
/-! _law_frame (k03, k05, ..) -/
section
variable {P : Program} {w : World} {K : PySem.W.Frag} {mg : Str → Option Value} {base : Heap} {f : Addr} {fd : FuncData} {ks : Kinds} {CI CF : Addr}
abbrev psO : List Str := ["cls", "legs", "top", "ground", "power"]
theorem of_kwB (F : FunD K "of" "Frame.of" (defArgs sOf) (defBody sOf) (defScope sOf) [] kwsF f fd) (G : FnOk P w K mg base (L2.CX P w) 6 f fd psO (spOf K ks CI CF)) :
    FnK P w K mg base (L2.CX P w) 6 f ksB (fun vs zs H Q E => vs.length = 2 ∧ spOf K ks CI CF (vs ++ zs) H Q E) := by
  obtain ⟨mv, hb⟩ := F.kbinds0 (ps := psO) 2 ksB [] (fun us mv ws => us ++ ws) (by decide) (fun q h => nomatch h) (fun r1 _ r3 => r1.append r3)
    (fun D doc pm an cdv ct us mv ws h1 h2 h3 => match us, mv, ws, h1, h2, h3 with
      | [a, b], [], [x, y, z], _, _, _ => rfl)
  exact fnK_of G hb
end
theorem topIn {K : PySem.W.Frag} {H : Hp} {i : Int} (h1 : 1 ≤ i) (h3 : i ≤ 3) : TopIs K H (.int i) true := .inl ⟨i, rfl, by rw [decide_eq_true h1, decide_eq_true h3]; rfl⟩
theorem railIn {K : PySem.W.Frag} {H : Hp} {b : Bool} : RailIs K H (.bl b) true := ⟨"bool", .base (.bl b), by decide +kernel⟩
/-- the legs ys are the drivers ds and the listeners ls -/
def KindsOf (ks : Kinds) (ys : List LegR) (ds ls : List Str) : Prop := ∃ rs1 rs2 : List LegR, ys.Perm (rs1 ++ rs2) ∧ names rs1 = ds ∧ names rs2 = ls ∧ (∀ r ∈ rs1, r.C = ks.drv) ∧ ∀ r ∈ rs2, r.C = ks.lis
abbrev sFrm : Stmt := top 34
abbrev nFm : List Str := ["_law_bare_here", "_law_legs_so", "_law_rails_so", "_law_tag"]
theorem scFm : FnScope nFm ["_law_bare_here"] (defScope sFrm) := ⟨rfl, rfl, rfl, by decide +kernel, rfl, by decide +kernel, by decide +kernel⟩
def spFrm (ks : Kinds) (CF : Addr) : Sp := fun vs H Q _ => ∃ (b : Addr) (d : BareD) (p : Addr), vs = [.ref b] ∧ BareAt H b d p ∧ d.ok ∧ ∀ a ys H', FrIs ks CF H' a ⟨ys, d.t, d.g, d.r⟩ → KindsOf ks ys d.ds d.ls → H a = none → Same H H' → Q (.ref a) H'
structure FkT (P : Program) (w : World) (K : PySem.W.Frag) (mg : Str → Option Value) (base : Heap) (ks : Kinds) (CI CF : Addr) : Prop where
  d : MkL P w K mg base CI ks.drv "Driver"
  i : MkL P w K mg base CI ks.lis "Listener"
  mF : mg "Frame" = some (.ref CF)
  of : ∃ mc q gO, ClX.CRead K CF mc ∧ ClX.CMet K CF mc "of" q gO ∧ FnK P w K mg base (L2.CX P w) 6 gO ksB (fun vs zs H Q E => vs.length = 2 ∧ spOf K ks CI CF (vs ++ zs) H Q E)
def teMk (K : PySem.W.Frag) (CI C : Addr) : TE := tMk K CI C (tVar 3)
theorem names_append (xs ys : List LegR) : names (xs ++ ys) = names xs ++ names ys := List.map_append
theorem refs_append (xs ys : List LegR) : refs (xs ++ ys) = refs xs ++ refs ys := List.map_append
/-- [C(tag) for tag in zs] -/
theorem mk_walk {K : PySem.W.Frag} {CI C q D : Addr} {zs : List Str} {H : Hp} {σ : L2.St} {Qd : Hp → Prop} (hσ : σ.length = 4) (hq : H q = some (.lst (strv zs))) (hD : H D = none) (hz : ∀ z ∈ zs, z ∈ poolS) (hl : zs.length ≤ 16)
    (hd : ∀ H' rs, Same H H' → H' D = some (.lst (refs rs)) → names rs = zs → (∀ r ∈ rs, r.C = C ∧ LegAt H' r.a C r.z) → Qd H') :
    ∃ W : Nat → Nat → Hp → Prop, (∃ m, W 0 m (upd H D (.lst []))) ∧ ∀ i m H, W i m H →
      ((Itl K q).stop i H ∧ Qd H) ∨ ((Itl K q).go i H ∧ ∃ Nx : Hp → Prop, (∀ H', Nx H' → ∃ m', m' < m ∧ W (i + 1) m' H') ∧ ∀ x H', (Itl K q).yld i H x H' → gName 3 x (wipe σ [3]) H' fun σ2 H2 => wipe σ2 [3] = wipe σ [3] ∧ tYes σ2 H2 fun b H3 =>
        if b = true then teMk K CI C σ2 H3 fun y H4 => ∃ acc, H4 D = some (.lst acc) ∧ acc.length < sizeLine ∧ Nx (upd H4 D (.lst (acc ++ [y]))) else Nx H3) := by
  match σ, hσ with
  | [u0, u1, u2, u3], _ =>
  have hlm : (strv zs).length = zs.length := List.length_map _
  refine lc_it (walk_list (K := K) (a := q) (xs := strv zs)) (fun i H' => Same H H' ∧ ∃ rs, H' D = some (.lst (refs rs)) ∧ names rs = zs.take i ∧ ∀ r ∈ rs, r.C = C ∧ LegAt H' r.a C r.z) ⟨same_at hD, [], upd_same, rfl, fun r hr => by cases hr⟩ (fun i H' _ p => SqL.of (p.1 _ _ hq)) ?_ ?_
  · rintro i x H1 H2 hi ⟨s1, rs, d1, hn, hr⟩ ⟨rfl, hx⟩
    rw [hlm] at hi
    have ex : (strv zs)[i]? = some (.str zs[i]) := by show (zs.map V.str)[i]? = _; rw [List.getElem?_map, List.getElem?_eq_getElem hi]; rfl
    rw [ex] at hx
    obtain rfl := Option.some.inj hx
    refine ⟨rfl, ?_⟩
    unfold tYes
    dsimp only
    rw [if_pos rfl]
    obtain ⟨o1, o2⟩ := pool_ok _ (hz _ (List.getElem_mem hi))
    unfold teMk
    refine mk_rd (fun Q'' q => ⟨_, rfl, q⟩) o1 (by omega) fun a H3 ha la s3 => ?_
    have d3 := s3 _ _ d1
    have nDa : D ≠ a := fun z => by
      obtain ⟨dx, e⟩ := la
      rw [← z, d3] at e
      cases e
    have keepD : ∀ {c C' : Addr} {z : Str} {o : HO}, LegAt H3 c C' z → LegAt (upd H3 D o) c C' z := fun ⟨dx, e⟩ => ⟨dx, by rw [upd_ne (ne_of e d3 (by intro z; cases z))]; exact e⟩
    refine ⟨_, d3, ?_, fun c o hc => ?_, rs ++ [⟨a, C, zs[i]⟩], ?_, ?_, fun r hr' => ?_⟩
    · have e1 : rs.length = (zs.take i).length := by rw [← hn]; unfold names; rw [List.length_map]
      show (List.map _ rs).length < _
      rw [List.length_map, e1, List.length_take]
      exact Nat.lt_of_le_of_lt (Nat.min_le_right _ _) (Nat.lt_of_le_of_lt hl (by decide))
    · rw [upd_ne (ne_of_none hc hD)]
      exact s3 _ _ (s1 _ _ hc)
    · rw [upd_same, refs_append]
      rfl
    · rw [names_append, hn, List.take_add_one, List.getElem?_eq_getElem hi]
      rfl
    · rcases List.mem_append.mp hr' with hr' | hr'
      · exact ⟨(hr r hr').1, keepD ((hr r hr').2.same s3)⟩
      · obtain rfl := List.mem_singleton.mp hr'
        exact ⟨rfl, keepD la⟩
  · rintro H1 ⟨s1, rs, d1, hn, hr⟩
    rw [hlm, List.take_length] at hn
    exact hd H1 rs s1 d1 hn hr
theorem inV_rails (g r : Bool) : inV (.str "ground") (strv (railsZ g r)) = g ∧ inV (.str "power") (strv (railsZ g r)) = r := by
  cases g <;> cases r <;> decide +kernel
theorem flat_strv : ∀ zs : List Str, (strv zs).all flatV = true
  | [] => rfl
  | z :: zs => by
    show (flatV (.str z) && (strv zs).all flatV) = true
    rw [flat_strv zs]
    rfl
section
variable {P : Program} {w : World} {K : PySem.W.Frag} {mg : Str → Option Value} {base : Heap}
theorem ok_frm {f CI CF : Addr} {fd : FuncData} {ks : Kinds} (F : Fun K "_law_frame" "_law_frame" sFrm f fd) (T : FkT P w K mg base ks CI CF) : FnOk P w K mg base CX0 7 f fd ["_law_bare_here"] (spFrm ks CF) := by
  obtain ⟨⟨fD, fdD, MD, GD, bD⟩, mD⟩ := T.d
  obtain ⟨⟨fI, fdI, MI, GI, bI⟩, mI⟩ := T.i
  obtain ⟨mc, qO, gO, cr, cm, GB⟩ := T.of
  refine F.ok scFm (fun vs H Q E h => ?_) (fun cdv A outer s H vs Q E hr h => ?_)
  · obtain ⟨b, d, p, rfl, _⟩ := h
    rfl
  · obtain ⟨b, d, p, rfl, hB, ok, k⟩ := h
    obtain ⟨dl, ll, rl, hb, hdl, hll, hrl, _⟩ := hB.ex
    have hr5 := hr.mono (show 5 ≤ 6 by decide)
    refine ⟨_, pss_cons (ps_set (i := 1) scFm.nd rfl (Or.inl rfl) (pe_op op_cat
        (pe_lc (te := teMk K CI ks.drv) (own := [("_law_tag", 3)]) (g := gName 3) (tt := tYes) rfl scFm.nd (pi_list (pe_dget (hu_of hr) (pv 0) pe_str (fun _ _ => rfl))) (blkOk_by (N := nFm) (sc := defScope sFrm) (by decide +kernel))
          (fun _ _ _ _ _ => pg_name (i := 3) scFm.nd rfl (Or.inl rfl)) (fun _ _ _ _ _ => pts_nil) (fun _ _ _ _ _ => pe_make MD GD hr5 rfl mD bD .nil (passNo rfl rfl) (pa_cons (pv 3) pa_nil)))
        (pe_lc (te := teMk K CI ks.lis) (own := [("_law_tag", 3)]) (g := gName 3) (tt := tYes) rfl scFm.nd (pi_list (pe_dget (hu_of hr) (pv 0) pe_str (fun _ _ => rfl))) (blkOk_by (N := nFm) (sc := defScope sFrm) (by decide +kernel))
          (fun _ _ _ _ _ => pg_name (i := 3) scFm.nd rfl (Or.inl rfl)) (fun _ _ _ _ _ => pts_nil) (fun _ _ _ _ _ => pe_make MI GI hr5 rfl mI bI .nil (passNo rfl rfl) (pa_cons (pv 3) pa_nil)))))
      (pss_cons (ps_set (i := 2) scFm.nd rfl (Or.inl rfl) (pe_dget (hu_of hr) (pv 0) pe_str (fun _ _ => rfl)))
      (pss_one (ps_ret (pe_cmethK (pe_glob rfl T.mF (v := .ref CF) rfl) cr cm GB hr (passNo rfl rfl) (pa_cons (pv 1) pa_nil) (pk_cons (pe_dget (hu_of hr) (pv 0) pe_str (fun _ _ => rfl)) (pk_cons (pe_cmpR op_in_seq pe_str (pv 2) (by rfl)) (pk_cons (pe_cmpR op_in_seq pe_str (pv 2) (by rfl)) pk_nil))))))), ?_⟩
    have lds : d.ds.length ≤ 16 := by have := ok.le; omega
    have lls : d.ls.length ≤ 16 := by have := ok.le; omega
    refine ⟨_, rfl, b, _, rfl, DGet.k (k := Sum.inr "drivers") hb, dl, rfl, ⟨_, SqL.of hdl⟩, fun D1 hD1 => ?_⟩
    refine mk_walk rfl hdl hD1 (fun z hz => ok.po z (List.mem_append_left _ hz)) lds fun H1 rs1 s1 d1 n1 r1 => ?_
    refine ⟨_, rfl, b, _, rfl, DGet.k (k := Sum.inr "listeners") (s1 _ _ hb), ll, rfl, ⟨_, SqL.of (s1 _ _ hll)⟩, fun D2 hD2 => ?_⟩
    refine mk_walk rfl (s1 _ _ hll) hD2 (fun z hz => ok.po z (List.mem_append_right _ hz)) lls fun H2 rs2 s2 d2 n2 r2 => ?_
    have e1 : rs1.length = d.ds.length := by rw [← n1]; unfold names; rw [List.length_map]
    have e2 : rs2.length = d.ls.length := by rw [← n2]; unfold names; rw [List.length_map]
    have c1 : (refs rs1).length = rs1.length := List.length_map _
    have c2 : (refs rs2).length = rs2.length := List.length_map _
    refine ⟨D1, D2, refs rs1, refs rs2, rfl, rfl, s2 _ _ d1, d2, Nat.le_trans (show _ ≤ 32 by omega) (by decide), fun L hL => ?_⟩
    obtain ⟨H3, e3⟩ : ∃ H3, H3 = upd H2 L (.lst (refs rs1 ++ refs rs2)) := ⟨_, rfl⟩
    have s3 : Same H2 H3 := by rw [e3]; exact same_at hL
    have hL3 : H3 L = some (.lst (refs (rs1 ++ rs2))) := by rw [e3, upd_same, refs_append]
    rw [← e3]
    have s03 := (s1.trans s2).trans s3
    have hb3 := s03 _ _ hb
    have hrl3 := s03 _ _ hrl
    refine ⟨_, rfl, b, _, rfl, DGet.k (k := Sum.inr "rails") hb3, ?_⟩
    refine ⟨rfl, _, rfl, _, rfl, b, _, rfl, DGet.k (k := Sum.inr "top") hb3, _, rfl, rl, _, rfl, .inl (SqL.of hrl3), rfl, flat_strv _, _, rfl, rl, _, rfl, .inl (SqL.of hrl3), rfl, flat_strv _, rfl, rfl, ?_⟩
    rw [if_neg Bool.false_ne_true, if_neg Bool.false_ne_true, (inV_rails d.g d.r).1, (inV_rails d.g d.r).2]
    have hrs : ∀ r ∈ rs1 ++ rs2, r.ok ks H3 := fun r hr' => by
      rcases List.mem_append.mp hr' with h | h
      · exact ⟨.inl (r1 r h).1, by rw [(r1 r h).1]; exact (((r1 r h).2.same s2).same s3)⟩
      · exact ⟨.inr (r2 r h).1, by rw [(r2 r h).1]; exact ((r2 r h).2.same s3)⟩
    have hnm : names (rs1 ++ rs2) = d.ds ++ d.ls := by rw [names_append, n1, n2]
    have hdue : due (names (rs1 ++ rs2)) true (true && true) = .non := by
      unfold due
      rw [hnm, List.length_append, if_neg (by have := ok.le; omega), if_pos ok.nd]
      rfl
    refine ⟨_, _, _, _, true, true, true, rfl, topIn ok.t1 ok.t3, railIn, railIn, .inr ⟨L, _, rfl, .inl hL3, ?_, .inr ⟨rs1 ++ rs2, rfl, hrs, fun z hz => ?_, fun _ a H4 ys ha ho hf s4 => ?_⟩⟩⟩
    · rw [refs_append, List.length_append]
      omega
    · rw [hdue] at hz
      cases hz
    · have hpn : (names ys).Perm (d.ds ++ d.ls) := by rw [← hnm]; exact ho.1.map _
      refine k a ys H4 ⟨hf, fun r hr' => (hrs r (ho.1.mem_iff.mp hr')).same s4, hpn.nodup_iff.mpr ok.nd, ?_, ho.2⟩ ⟨rs1, rs2, ho.1, n1, n2, fun r h => (r1 r h).1, fun r h => (r2 r h).1⟩ (s03.free ha) (s03.trans s4)
      rw [ho.1.length_eq, List.length_append]
      omega
end
end Sj
namespace Sj
open PySem L2 Sup StK Own Shw Exg
open NdefX (NF NScope ncx envF startF nscope_by)
open C8 (pss_cut tCut)
/-! _law_legs, _law_odd (k03, k05, ..) -/
abbrev sLgs : Stmt := top 35
abbrev sOdd : Stmt := top 38
theorem scLgs : FnScope ["_law_bare_here"] ["_law_bare_here"] (defScope sLgs) := ⟨rfl, rfl, rfl, by decide +kernel, rfl, by decide +kernel, by decide +kernel⟩
def spLgs : Sp := fun vs H Q _ => ∃ (b : Addr) (d : BareD) (p : Addr), vs = [.ref b] ∧ BareAt H b d p ∧ d.ok ∧ ∀ zs q H', zs.Perm (d.ds ++ d.ls) → PyProof.Rows.sortedS zs = true → H q = none → H' q = some (.lst (strv zs)) → Same H H' → Q (.ref q) H'
/-- what is no name of anything -/
def oddF : List V := [.non, .int 0, .bl true, .str "", .str "A", .str "nobody", .str "nothing", .int (10 ^ 30), .str "a b"]
inductive OddX (H : Hp) (p : Addr) : V → Prop
  | flat {x : V} : x ∈ oddF → OddX H p x
  | tup {t : Addr} : H t = some (.tup [.str "a"]) → OddX H p (.ref t)
  | lst {l : Addr} : H l = some (.lst [.str "a"]) → l ≠ p → sysModules ≠ l → OddX H p (.ref l)
  | dic {q : Addr} : H q = some (.dK []) → OddX H p (.ref q)
theorem OddX.same {H H' : Hp} {p : Addr} {x : V} (h : OddX H p x) (s : Same H H') : OddX H' p x := by
  cases h with
  | flat h => exact .flat h
  | tup h => exact .tup (s _ _ h)
  | lst h n m => exact .lst (s _ _ h) n m
  | dic h => exact .dic (s _ _ h)
theorem OddX.but {H H' : Hp} {p l : Addr} {cs : List Int} {n : Nat} {x : V} (h : OddX H p x) (hP : Pen H p l cs n) (s : But H H' p) : OddX H' p x := by
  cases h with
  | flat h => exact .flat h
  | tup h => exact .tup (s.keep hP h fun ys z => by cases z)
  | lst h n m => exact .lst (s _ _ n h) n m
  | dic h => exact .dic (s.keep hP h fun ys z => by cases z)
theorem smalls_of {d : PyData} (h : (PyData.showable d && decide (d.depth ≤ 60) && decide (d.shown.length ≤ 1000)) = true) : Smalls d := by
  rw [Bool.and_eq_true, Bool.and_eq_true, decide_eq_true_eq, decide_eq_true_eq] at h
  exact ⟨⟨h.1.1, h.1.2, Nat.le_trans h.2 (by decide)⟩, h.2⟩
theorem OddX.data {K : PySem.W.Frag} {H : Hp} {p : Addr} {x : V} (h : OddX H p x) : ∃ d, Dq K H x d ∧ Smalls d := by
  cases h with
  | flat h =>
    unfold oddF at h
    simp only [List.mem_cons, List.not_mem_nil, or_false] at h
    rcases h with rfl | rfl | rfl | rfl | rfl | rfl | rfl | rfl | rfl
    · exact ⟨_, .non, smalls_of (by decide +kernel)⟩
    · exact ⟨_, .int _, smalls_of (by decide +kernel)⟩
    · exact ⟨_, .bl _, smalls_of (by decide +kernel)⟩
    · exact ⟨_, .str _, smalls_of (by decide +kernel)⟩
    · exact ⟨_, .str _, smalls_of (by decide +kernel)⟩
    · exact ⟨_, .str _, smalls_of (by decide +kernel)⟩
    · exact ⟨_, .str _, smalls_of (by decide +kernel)⟩
    · exact ⟨_, .int _, smalls_of (by decide +kernel)⟩
    · exact ⟨_, .str _, smalls_of (by decide +kernel)⟩
  | tup h => exact ⟨_, .tup (SqT.of h) (.cons (.str _) .nil), smalls_of (by decide +kernel)⟩
  | lst h n m => exact ⟨_, .lst m (SqL.of h) (.cons (.str _) .nil), smalls_of (by decide +kernel)⟩
  | dic h => exact ⟨_, .dic (.inl h), smalls_of (by decide +kernel)⟩
def spOdd : Sp := fun vs H Q _ => ∃ (p l : Addr) (cs : List Int) (n : Nat), vs = [.ref p] ∧ Pen H p l cs n ∧ n < 90000 ∧ ∀ x H', OddX H' p x → Pen H' p l cs (n + 1) → But H H' p → Q x H'
section
variable {P : Program} {w : World} {K : PySem.W.Frag} {mg : Str → Option Value} {base : Heap}
theorem ok_lgs {f : Addr} {fd : FuncData} (F : Fun K "_law_legs" "_law_legs" sLgs f fd) (mS : mg "sorted" = none) : FnOk P w K mg base CX0 1 f fd ["_law_bare_here"] spLgs := by
  refine F.ok scLgs (fun vs H Q E h => ?_) (fun cdv A outer s H vs Q E hr h => ?_)
  · obtain ⟨b, d, p, rfl, _⟩ := h
    rfl
  · obtain ⟨b, d, p, rfl, hB, ok, k⟩ := h
    obtain ⟨dl, ll, rl, hb, hdl, hll, hrl, _⟩ := hB.ex
    refine ⟨_, pss_one (ps_ret (pe_callB cr_sortedS (by rfl) mS (by decide +kernel) (pa_cons (pe_op op_cat (pe_dget (hu_of hr) (pv 0) pe_str (fun _ _ => rfl)) (pe_dget (hu_of hr) (pv 0) pe_str (fun _ _ => rfl))) pa_nil))), ?_⟩
    have c1 : (strv d.ds).length = d.ds.length := List.length_map _
    have c2 : (strv d.ls).length = d.ls.length := List.length_map _
    refine ⟨_, rfl, b, _, rfl, DGet.k (k := Sum.inr "drivers") hb, _, rfl, b, _, rfl, DGet.k (k := Sum.inr "listeners") hb, dl, ll, _, _, rfl, rfl, hdl, hll, Nat.le_trans (show _ ≤ 16 by rw [c1, c2]; exact ok.le) (by decide), fun q hq => ?_⟩
    have s1 := same_at (o := .lst (strv d.ds ++ strv d.ls)) hq
    refine ⟨q, d.ds ++ d.ls, rfl, SqL.of ?_, by rw [List.length_append]; have := ok.le; omega, fun ys p2 hp hs hn => ?_⟩
    · rw [upd_same]
      show _ = some (HO.lst (List.map _ _))
      rw [List.map_append]
      rfl
    · exact k ys p2 _ hp hs (s1.free hn) upd_same (s1.trans (same_at hn))
theorem ok_odd {f : Addr} {fd : FuncData} (F : Fun K "_law_odd" "_law_odd" sOdd f fd) (T : DwT P w K mg base) : FnOk P w K mg base CX0 3 f fd ["_law_pen_here"] spOdd := by
  obtain ⟨fp, fdp, mp, kp, bp, Gp⟩ := T.pick
  have sc : FnScope ["_law_pen_here"] ["_law_pen_here"] (defScope sOdd) := ⟨rfl, rfl, rfl, by decide +kernel, rfl, by decide +kernel, by decide +kernel⟩
  refine F.ok sc (fun vs H Q E h => ?_) (fun cdv A outer s H vs Q E hr h => ?_)
  · obtain ⟨p, l, cs, n, rfl, _⟩ := h
    rfl
  · obtain ⟨p, l, cs, n, rfl, hP, hn, k⟩ := h
    refine ⟨_, pss_one (ps_ret (pe_call Gp hr rfl mp kp bp .nil pass0 (pa_cons (pv 0) (pa_cons (pe_lst (pa_cons pe_non (pa_cons pe_int (pa_cons pe_bl (pa_cons pe_str (pa_cons pe_str (pa_cons pe_str (pa_cons pe_str (pa_cons (pe_tup (pa_cons pe_str pa_nil)) (pa_cons (pe_lstN (pa_cons pe_str pa_nil)) (pa_cons pe_dnewK (pa_cons (pe_op op_pow pe_int pe_int) (pa_cons pe_str pa_nil))))))))))))) pa_nil)))), ?_⟩
    refine ⟨_, rfl, by show 1 ≤ sizeLine; decide, fun t ht => ⟨by show 1 ≤ sizeLine; decide, fun q hq nq => ?_⟩⟩
    refine fun d hd => ⟨10, 30, rfl, rfl, ⟨by decide, by decide, by decide⟩, by show 12 ≤ sizeLine; decide, fun L hL => ?_⟩
    have s1 := same_at (o := .tup [.str "a"]) ht
    have s2 := same_at (o := .lst [.str "a"]) hq
    have s3 := same_at (o := .dK []) hd
    obtain ⟨X, eX⟩ : ∃ X : List V, X = [.non, .int 0, .bl true, .str "", .str "A", .str "nobody", .str "nothing", .ref t, .ref q, .ref d, .int (10 ^ (30 : Int).toNat), .str "a b"] := ⟨_, rfl⟩
    rw [← eX]
    have s4 := same_at (o := .lst X) hL
    have s34 := s3.trans s4
    have s24 := s2.trans s34
    have s14 := s1.trans s24
    refine ⟨p, l, L, cs, n, X, rfl, hP.same s14, upd_same, nep (((hP.same s1).same s2).same s3) hL, by rw [eX]; show 0 < 12; decide, by rw [eX]; show 12 < 1000; decide, by omega, fun j x H5 hj P5 b5 => ?_⟩
    refine k x H5 ?_ P5 ((But.of s14).trans b5)
    have qp : q ≠ p := nep (hP.same s1) hq
    have ho : OddX (upd (upd (upd (upd H t (.tup [.str "a"])) q (.lst [.str "a"])) d (.dK [])) L (.lst X)) p x := by
      rw [eX] at hj
      match j, hj with
      | 0, hj => rw [← Option.some.inj hj]; exact .flat (by unfold oddF; simp)
      | 1, hj => rw [← Option.some.inj hj]; exact .flat (by unfold oddF; simp)
      | 2, hj => rw [← Option.some.inj hj]; exact .flat (by unfold oddF; simp)
      | 3, hj => rw [← Option.some.inj hj]; exact .flat (by unfold oddF; simp)
      | 4, hj => rw [← Option.some.inj hj]; exact .flat (by unfold oddF; simp)
      | 5, hj => rw [← Option.some.inj hj]; exact .flat (by unfold oddF; simp)
      | 6, hj => rw [← Option.some.inj hj]; exact .flat (by unfold oddF; simp)
      | 7, hj => rw [← Option.some.inj hj]; exact .tup (s24 _ _ upd_same)
      | 8, hj => rw [← Option.some.inj hj]; exact .lst (s34 _ _ upd_same) qp nq
      | 9, hj => rw [← Option.some.inj hj]; exact .dic (s4 _ _ upd_same)
      | 10, hj => rw [← Option.some.inj hj]; exact .flat (by unfold oddF; simp)
      | 11, hj => rw [← Option.some.inj hj]; exact .flat (by unfold oddF; simp)
    exact ho.but (hP.same s14) b5
end
end Sj
namespace Sj
open PySem L2 Sup StK Own Shw Exg
open NdefX (NF NScope ncx envF startF nscope_by)
open C8 (pss_cut tCut)
/-! k03: _law_members, _law_turned -/
abbrev sMms : Stmt := top 36
theorem scMms : FnScope ["_law_bare_here"] ["_law_bare_here"] (defScope sMms) := ⟨rfl, rfl, rfl, by decide +kernel, rfl, by decide +kernel, by decide +kernel⟩
def spMms : Sp := fun vs H Q _ => ∃ (b : Addr) (d : BareD) (p : Addr), vs = [.ref b] ∧ BareAt H b d p ∧ d.ok ∧ ∀ zs q H', zs.Perm (d.ds ++ d.ls ++ railsZ d.g d.r) → PyProof.Rows.sortedS zs = true → H q = none → H' q = some (.lst (strv zs)) → Same H H' → Q (.ref q) H'
theorem rails_le (g r : Bool) : (railsZ g r).length ≤ 2 := by cases g <;> cases r <;> decide
section
variable {P : Program} {w : World} {K : PySem.W.Frag} {mg : Str → Option Value} {base : Heap}
theorem ok_mms {f fl : Addr} {fd fdl : FuncData} (F : Fun K "_law_members" "_law_members" sMms f fd) (mS : mg "sorted" = none) (ml : mg "_law_legs" = some (.ref fl)) (kl : PySem.W.keepIn K (.ref fl) = true) (bl : Binds K fdl ["_law_bare_here"] []) (Gl : FnOk P w K mg base CX0 1 fl fdl ["_law_bare_here"] spLgs) :
    FnOk P w K mg base CX0 2 f fd ["_law_bare_here"] spMms := by
  refine F.ok scMms (fun vs H Q E h => ?_) (fun cdv A outer s H vs Q E hr h => ?_)
  · obtain ⟨b, d, p, rfl, _⟩ := h
    rfl
  · obtain ⟨b, d, p, rfl, hB, ok, k⟩ := h
    refine ⟨_, pss_one (ps_ret (pe_callB cr_sortedS (by rfl) mS (by decide +kernel) (pa_cons (pe_op op_cat (pe_call Gl hr rfl ml kl bl .nil pass0 (pa_cons (pv 0) pa_nil)) (pe_dget (hu_of hr) (pv 0) pe_str (fun _ _ => rfl))) pa_nil))), ?_⟩
    refine ⟨_, rfl, b, d, p, rfl, hB, ok, fun zs q H1 hz hs hq hq1 s1 => ?_⟩
    obtain ⟨dl, ll, rl, hb, hdl, hll, hrl, _⟩ := (hB.same s1).ex
    have c1 : (strv zs).length = zs.length := List.length_map _
    have c2 : (strv (railsZ d.g d.r)).length = (railsZ d.g d.r).length := List.length_map _
    have hzl : zs.length ≤ 16 := by rw [hz.length_eq, List.length_append]; exact ok.le
    have hrl2 := rails_le d.g d.r
    refine ⟨_, rfl, b, _, rfl, DGet.k (k := Sum.inr "rails") hb, q, rl, _, _, rfl, rfl, hq1, hrl, Nat.le_trans (show _ ≤ 18 by rw [c1, c2]; omega) (by decide), fun p2 hp2 => ?_⟩
    have s2 := same_at (o := .lst (strv zs ++ strv (railsZ d.g d.r))) hp2
    refine ⟨p2, zs ++ railsZ d.g d.r, rfl, SqL.of ?_, by rw [List.length_append]; omega, fun ys p3 hp hso hn => ?_⟩
    · rw [upd_same]
      show _ = some (HO.lst (List.map _ _))
      rw [List.map_append]
      rfl
    · exact k ys p3 _ (hp.trans (hz.append_right _)) hso ((s1.trans s2).free hn) upd_same ((s1.trans s2).trans (same_at hn))
end
end Sj
namespace Sj
open PySem L2 Sup StK Own Shw Exg
open NdefX (NF NScope ncx envF startF nscope_by)
open C8 (pss_cut tCut)
/-! xs != [] of a list of anything; what a frame tells of a plain one -/
def rNeNil : R2 := fun x y H Q => ∃ a b xs, x = .ref a ∧ y = .ref b ∧ H a = some (.lst xs) ∧ H b = some (.lst []) ∧ Q (.bl (!xs.isEmpty)) H
theorem op_neNil {X : Cx} (hu : X.A.units + 64 < cLine) : OpR X (compareOp .NotEq) rNeNil := by
  intro pins s σ H x y v u Q I rx ry h
  obtain ⟨a, b, xs, rfl, rfl, ha, hb, q⟩ := h
  cases xs with
  | nil => exact op_neD hu pins s σ H _ _ v u Q I rx ry ⟨.list [], .list [], .lst (SqL.of ha) .nil, .lst (SqL.of hb) .nil, rfl, rfl, q⟩
  | cons y ys =>
    obtain rfl : v = Value.ref a := rx
    obtain rfl : u = Value.ref b := ry
    obtain ⟨its, r1, p1, _⟩ := I.list (SqL.of ha)
    obtain ⟨it2, r2, p2, _⟩ := I.list (SqL.of hb)
    have e1 : its.toArray.size ≠ it2.toArray.size := by
      rw [List.size_toArray, List.size_toArray, ← r1.length, ← r2.length]
      exact Nat.succ_ne_zero _
    exact SeqAt.RcNeAt.lists_lengths p1.isList p2.isList (by simpa using e1) (Nat.lt_of_le_of_lt (Nat.le_add_right _ _) hu) _ _ _ _ ⟨.bl true, H, I, rfl, q⟩
/-! a list that is not empty -/
end Sj
/-! repr of data without dicts, where nothing is being shown. -/
namespace ShN
open PySem PySem.Spec PyProof.Rows L2
structure FitN (d : PyData) : Prop where
  sh : PyData.showable d = true
  dp : d.depth ≤ 60
  sz : d.shown.length ≤ sizeLine
  nd : d.hasDict = false
def rShN (K : PySem.W.Frag) : List V → Hp → VK → Prop := fun xs H Q => ∃ x d, xs = [x] ∧ Dp K H x d ∧ FitN d ∧ Q (.str d.shown) H
theorem call_shN {X : Cx} (hg : X.A.guards = some []) (hu : X.A.units + 64 < cLine) : CallR X (.builtin "repr") (rShN X.K) := by
  intro pins s σ H xs us Q I r h
  obtain ⟨x, d, rfl, hd, ft, q⟩ := h
  obtain ⟨u, rfl, ru⟩ : ∃ u, us = [u] ∧ RelV x u := by
    cases r with
    | cons a r =>
      cases r
      exact ⟨_, rfl, a⟩
  obtain ⟨as, rd⟩ := Dp.reads I d x u hd ru
  cases hd with
  | non => cases ru; exact PySem.P.repr_of_none ⟨.str _, H, I.tok _, ⟨_, rfl⟩, q⟩
  | bl b => cases ru; exact PySem.P.repr_of_bool ⟨.str _, H, I.tok _, ⟨_, rfl⟩, q⟩
  | int i => obtain ⟨t, rfl⟩ := ru; exact PySem.P.repr_of_int (of_decide_eq_true ft.sh) ⟨.str _, H, I.tok _, ⟨_, rfl⟩, q⟩
  | str y => obtain ⟨t, rfl⟩ := ru; exact PySem.P.repr_of_str ⟨.str _, H, I.tok _, ⟨_, rfl⟩, q⟩ ft.sz
  | lst q1 q2 => cases ru; exact PySem.repr_of_reads' rd ft.sh (PyData.noDict_hsm ft.nd) hg (by have := ft.dp; omega) (fun _ _ e => e) (fun h' u tk hk => ⟨.str _, H, I.kept (t' := tk) hk, ⟨_, rfl⟩, q⟩) ft.sz
  | tup q1 q2 => cases ru; exact PySem.repr_of_reads' rd ft.sh (PyData.noDict_hsm ft.nd) hg (by have := ft.dp; omega) (fun _ _ e => e) (fun h' u tk hk => ⟨.str _, H, I.kept (t' := tk) hk, ⟨_, rfl⟩, q⟩) ft.sz
end ShN
namespace Sj
open PySem L2 Sup
/-! data that can be shown, by its parts -/
structure Sm (k n : Nat) (d : PyData) : Prop where
  sh : PyData.showable d = true
  ls : PyData.leavesShort 9 d = true
  nd : d.hasDict = false
  dp : d.depth ≤ k
  bk : d.bulk ≤ n
theorem Sm.mono {k n k' n' : Nat} {d : PyData} (h : Sm k n d) (hk : k ≤ k') (hn : n ≤ n') : Sm k' n' d := ⟨h.sh, h.ls, h.nd, Nat.le_trans h.dp hk, Nat.le_trans h.bk hn⟩
structure SmA (k n : Nat) (ds : List PyData) : Prop where
  sh : PyData.showableAll ds = true
  ls : PyData.leavesShortAll 9 ds = true
  nd : PyData.hasDictAll ds = false
  dp : PyData.depthAll ds ≤ k
  bk : PyData.bulkAll ds ≤ n
theorem SmA.nil {k : Nat} : SmA k 0 [] := ⟨rfl, rfl, rfl, Nat.zero_le _, Nat.le_refl _⟩
theorem SmA.cons {k n m : Nat} {d : PyData} {ds : List PyData} (h : Sm k n d) (t : SmA k m ds) : SmA k (n + 1 + m) (d :: ds) :=
  ⟨Bool.and_eq_true_iff.mpr ⟨h.sh, t.sh⟩, Bool.and_eq_true_iff.mpr ⟨h.ls, t.ls⟩, Bool.or_eq_false_iff.mpr ⟨h.nd, t.nd⟩, Nat.max_le.mpr ⟨h.dp, t.dp⟩, by
    show d.bulk + 1 + PyData.bulkAll ds ≤ _
    have := h.bk
    have := t.bk
    omega⟩
theorem SmA.all {k n : Nat} : ∀ {ds : List PyData}, (∀ d ∈ ds, Sm k n d) → SmA k (ds.length * (n + 1)) ds
  | [], _ => ⟨rfl, rfl, rfl, Nat.zero_le _, Nat.zero_le _⟩
  | d :: ds, h => by
    have t := SmA.cons (h d List.mem_cons_self) (SmA.all (k := k) (n := n) (ds := ds) fun x hx => h x (List.mem_cons_of_mem _ hx))
    refine ⟨t.sh, t.ls, t.nd, t.dp, Nat.le_trans t.bk ?_⟩
    rw [List.length_cons, Nat.succ_mul]
    omega
theorem Sm.tup {k n : Nat} {ds : List PyData} (h : SmA k n ds) : Sm (k + 1) n (.tuple ds) := ⟨h.sh, h.ls, h.nd, Nat.succ_le_succ h.dp, h.bk⟩
theorem Sm.lst {k n : Nat} {ds : List PyData} (h : SmA k n ds) : Sm (k + 1) n (.list ds) := ⟨h.sh, h.ls, h.nd, Nat.succ_le_succ h.dp, h.bk⟩
theorem Sm.fit {k n : Nat} {d : PyData} (h : Sm k n d) (hk : k ≤ 60) (hn : n ≤ 1000000) : ShN.FitN d := by
  refine ⟨h.sh, Nat.le_trans h.dp hk, ?_, h.nd⟩
  have b := PyData.shown_le_bulk 9 (by decide) d h.ls
  have := h.bk
  rw [sizeLine_eq]
  omega
theorem Sm.bool {k n : Nat} (b : Bool) : Sm k n (.bool b) := ⟨rfl, rfl, rfl, Nat.zero_le _, Nat.zero_le _⟩
theorem Sm.top {k n : Nat} {t : Int} (h1 : 1 ≤ t) (h3 : t ≤ 3) : Sm k n (.int t) := by
  obtain rfl | rfl | rfl : t = 1 ∨ t = 2 ∨ t = 3 := by omega
  all_goals exact ⟨by decide +kernel, by decide +kernel, by decide +kernel, Nat.zero_le _, Nat.zero_le _⟩
/-- a short name -/
def shortZ (z : Str) : Bool := PyData.showable (.str z) && PyData.leavesShort 9 (.str z) && decide (PyData.bulk (.str z) ≤ 8)
theorem Sm.str {k : Nat} {z : Str} (h : shortZ z = true) : Sm k 8 (.str z) := by
  unfold shortZ at h
  rw [Bool.and_eq_true, Bool.and_eq_true, decide_eq_true_eq] at h
  exact ⟨h.1.1, h.1.2, rfl, Nat.zero_le _, h.2⟩
/-- a tuple of short names -/
theorem Sm.names {zs : List Str} (h : ∀ z ∈ zs, shortZ z = true) (hl : zs.length ≤ 50) : Sm 1 450 (.tuple (zs.map PyData.str)) := by
  have a := SmA.all (k := 0) (n := 8) (ds := zs.map PyData.str) fun d hd => by
    obtain ⟨z, hz, rfl⟩ := List.mem_map.mp hd
    exact Sm.str (h z hz)
  rw [List.length_map] at a
  exact (Sm.tup a).mono (Nat.le_refl _) (by omega)
end Sj
/-! C(), C.m(k = v, ..) by a promise with keywords; lists of the same things under != -/
namespace StK
open PySem PySem.Spec PyProof PyProof.Rows L2
section
variable {X : Cx} {CX : CXT} {k n i : Nat} {f C : Addr} {ks : List Str} {sp : List V → List V → Hp → VK → XK → Prop} {E : XK} {x m : Str} {p pos sp_ apos : Pos} {e o : Expr} {es : List Expr} {kws : List Keyword} {te ta : TE} {t tk : TA} {mc : Value} {q g : Addr}
/-- C.m(k = v, ..), m a classmethod of C -/
theorem pe_cmethK0 {pl : Sem Bool} (he : PE X o ta) (r : ClX.CRead X.K C mc) (c : ClX.CMet X.K C mc m q g) (F : FnK X.prog X.w X.K X.mg X.base CX k g ks sp) (hr : Room k X.A) (hx : Passes CX X E) (hkw : PK X kws tk)
    (hall : (backToKw pos (keywordEach kws X.env)).all (·.1.isSome) = true := by rfl) (hks : (backToKw pos (keywordEach kws X.env)).filterMap (·.1) = ks := by rfl)
    (hpl : ((backTo pos (starEach [] X.env)).any (·.1) || (backToKw pos (keywordEach kws X.env)).any (·.1.isNone)) = false := by rfl)
    (ht : eval (.Call (.Attribute o m apos) [] kws pos) X.env = (do
      let ov ← eval o X.env
      standAt apos.atName
      let (f, first) ← holding [ov] (getMethod ov m pl)
      callWith pos f first (backTo pos (starEach [] X.env)) (backToKw pos (keywordEach kws X.env))) := by rfl) :
    PE X (.Call (.Attribute o m apos) [] kws pos) (tCMethK C ks.length sp E ta tNil tk) := by
  refine ⟨fun pins s σ H Q I h => ?_⟩
  refine PySem.W.methodCall_KW (pl := pl) (thn (he.run pins s σ H _ I h) fun u s1 ⟨x, H1, I1, rx, ex, q1⟩ => ?_) ht
  subst ex
  obtain rfl : u = Value.ref C := rx
  refine ClX.getmethcm_ok I1 r c fun s2 I2 => ?_
  refine PySem.W.callWith_of (P := PySem.W.MethP X.K _ g (.ref C)) hpl (PySem.W.keeps_M c.fi) ?_
  refine evalArgs_kw2_nil hall ?_
  refine thn (hkw.run pos _ s2 σ H1 _ I2 q1) fun ws s4 ⟨zs, H3, I4, rz, l2, q3⟩ => ⟨⟨ClX.pin_at I4, I4.kIn⟩, ?_⟩
  rw [hks]
  exact run_cmK (us := []) (vs := []) F hr hx I4 .nil rz l2 q3
end
end StK
/-! C(*xs, e, k = v) -/
namespace StK
open PySem PySem.Spec PyProof PyProof.Rows L2
end StK
/-! o + x, o - x by an operator of o's own class -/
namespace Own
open PySem PySem.Spec PySem.W PyProof.Rows L2 Sup Grd
end Own
/-! def f(a, .., **d), called with keywords; c(e, .., k = v), c a name that holds a class -/
namespace StK
open PySem PySem.Spec PyProof.Rows L2
open StX
end StK
/-! own methods by a promise that asks nothing of what is being shown -/
namespace Own
open PySem PySem.Spec PyProof.Rows L2 Sup Grd
structure MetN (P : Program) (w : World) (K : PySem.W.Frag) (mg : Str → Option Value) (base : Heap) (CX : CXT) (n : Nat) (C : Addr) (name : Str) (ps : List Str) (sp : Sp) : Prop where
  ex : ∃ (f : Addr) (fd : FuncData), PySem.W.findIn K (.ref C) name = some (some (.ref f)) ∧ PySem.W.isFn K (.ref f) = true ∧ PySem.W.fnIn K f = true ∧ FnOk P w K mg base CX n f fd ps sp ∧ Binds K fd ps []
section
variable {X : Cx} {CX : CXT} {pins : List (Addr × Obj)} {σ : L2.St} {H : Hp} {s : Shared} {k : Nat} {C f : Addr} {fd : FuncData} {ps : List Str} {sp : Sp} {E : XK}
theorem run_atN {A : Around} {Q : VK} {us : List Value} {vs : List V} {E' : Value → Shared → Prop} (F : FnOk X.prog X.w X.K X.mg X.base CX k f fd ps sp) (hr : Room k A) (hb : Binds X.K fd ps []) (e0 : Env0 X.prog X.w X.K X.mg X.base A X.stack s H)
    (hx : ∀ e s', CX X.stack H s E e s' → E' e s') (I : Inv X pins σ H s) (r : Vals vs us) (h : sp vs H Q E) : wpAny (model X.prog X.w) A (call (.ref f) us) (EP X pins σ Q) E' s := by
  have hl : (us ++ []).length = ps.length := by rw [List.append_nil, ← r.length]; exact F.len _ _ _ _ h
  have hB := hb s us I.kIn hl
  rw [List.append_nil] at hB
  refine wpAny_call (codeAny_mono (F.run A X.stack s H ⟨us, []⟩ us vs Q E hr e0 hB r h) fun res s' hq => ?_)
  match res, hq with
  | .error e, hq => exact hx e s' hq
  | .ok (.ret u), hq => exact I.after hq
theorem op_inN (M : MetN X.prog X.w X.K X.mg X.base CX0 k C "__contains__" ps sp) (hr : Room k X.A) : OpR X (compareOp .In) (rInO C false sp) := by
  obtain ⟨f, fd, h1, h2, _, F, hb⟩ := M
  intro pins s σ H x y v u Q I rx ry h
  obtain ⟨a, dx, fs, rfl, ha, h⟩ := h
  obtain rfl : u = Value.ref a := ry
  obtain ⟨mA, O, _⟩ := ins_get I.hok ha
  obtain ⟨od, J, _⟩ := O.look
  obtain ⟨m, Fr⟩ := I.fr
  refine PySem.W.in_K Fr I.mod.kin J h1 h2 (wpAny_mono (run_atN (vs := [.ref a, x]) F hr hb I.env0 (E' := X.xe) (fun e s' z => False.elim z) I (.cons rfl (.cons rx .nil)) h) (fun v s1 ⟨z, H1, I1, rv, b, ez, q⟩ => ?_) fun _ _ z => z)
  subst ez
  obtain rfl : v = Value.bool b := rv
  exact wpAny_truthy_bool ⟨.bl b, H1, I1, rfl, q⟩
end
end Own
/-! x not in (texts), x a text, or flat, or a list, a tuple, a dict -/
namespace Own
open PySem PySem.Spec PyProof.Rows L2 Sup
section
variable {prog : Program} {w : World} {A : Around} {s : Shared}
theorem rc_str_dict {b : Str} {u : Tok} {a : Addr} {o : Obj} {es : Array DictEntry} {ep : Nat} (ho : s.heap.get? a = some o) (hx : o.ExactDict) (hd : o.data = .dict es ep) (hu : A.units < cLine) {E : Value → Shared → Prop} {Q : Value → Shared → Prop} (h : Q (.bool false) s) :
    wpAny (model prog w) A (richCompare .Eq (.str b u) (.ref a)) Q E s := by
  obtain ⟨cls, dd, data, sl⟩ := o
  obtain ⟨hc, hdd, hsl⟩ := hx
  simp only at hc hdd hsl hd
  subst hc hdd hsl hd
  have hT : s.TypeIs (.ref a) "dict" := ⟨_, ho, rfl⟩
  refine SeqAt.rc_eq_decline_or (k := false) (typeIs_str s b u) hT (by decide) F.sub_dict_str F.slot_str_eq F.slot_dict_eq_refl (fun Q' hq => ?_) (fun Q' hq => ?_) (fun _ hq => wpAny_of_eq (rfl : isSame (.str b u) (.ref a) = pure false) hq) (.inr hu) h
  · refine wpAny_call_entry F.slot_str_eq (typeIs_str _ _ _) F.entry_str_eq ?_ (F.args_str_eq_2 _ _)
    have isn : ∀ (A : Around) (E : Value → Shared → Prop) (R : Option Str → Shared → Prop), R none s → wpAny (model prog w) A (asStr? (.ref a)) R E s := fun A E R hR => by
      unfold asStr?
      exact wpAny_bind (wpAny_load ho (wpAny_pure hR))
    obtain ⟨hp, gg, d, tk, os⟩ := s
    wp_walk using isn
    exact ⟨_, rfl, hq⟩
  · refine wpAny_call_entry F.slot_dict_eq_refl hT F.entry_dict_eq (show wpAny _ _ (Builtin.Dict.dictSlotArgs "__eq__" ⟨[.ref a, .str b u], []⟩ >>= _) _ _ s from ?_) (F.args_dict_eq_2 _ _)
    refine wpAny_bind ?_
    unfold Builtin.Dict.dictSlotArgs
    refine wpAny_bind (wpAny_notOrdered_dict hT (show wpAny _ _ (pure (Value.ref a, Value.str b u)) _ _ s from wpAny_pure ?_))
    refine wpAny_bind (wpAny_isInstance (T := "str") (b := false) (typeIs_str _ _ _) F.sub_str_dict ?_)
    first
      | exact wpAny_bind (wpAny_rule (wpAny_pure ⟨_, rfl, (fun x => nomatch x), hq⟩))
      | (obtain ⟨hp, gg, d, tk, os⟩ := s
         wp_walk
         exact ⟨_, rfl, hq⟩)
theorem eqAt_str_dict {b : Str} {u : Tok} {a : Addr} {o : Obj} {es : Array DictEntry} {ep : Nat} (ho : s.heap.get? a = some o) (hx : o.ExactDict) (hd : o.data = .dict es ep) (hu : A.units < cLine) : SeqAt.EqAt A s (.str b u) (.ref a) false := fun prog w E Q h => by
  unfold eqBool
  refine wpAny_holding ?_
  refine wpAny_ite_split (fun hab => absurd (eq_of_beq hab) nofun) (fun _ => ?_)
  exact wpAny_bind (rc_str_dict ho hx hd hu (wpAny_truthy_bool h))
end
/-- what may be asked for among texts, and whether it is there -/
inductive InS (K : PySem.W.Frag) (H : Hp) (zs : List Str) : V → Bool → Prop
  | str (z : Str) : InS K H zs (.str z) (decide (z ∈ zs))
  | non : InS K H zs .non false
  | bl (b : Bool) : InS K H zs (.bl b) false
  | int (i : Int) : InS K H zs (.int i) false
  | lst {a : Addr} {xs : List V} : SqL K H a xs → InS K H zs (.ref a) false
  | tup {a : Addr} {xs : List V} : SqT K H a xs → InS K H zs (.ref a) false
  | dic {a : Addr} {kvs : List (Key × V)} : H a = some (.dK kvs) → InS K H zs (.ref a) false
theorem strs_of : ∀ {zs : List Str} {its : List Value}, Vals (zs.map V.str) its → ∀ u ∈ its, ∃ z ∈ zs, ∃ t, u = .str z t
  | [], _, .nil, u, hu => by cases hu
  | z :: zs, _, .cons r t, u, hu => by
    rcases List.mem_cons.mp hu with rfl | hu
    · obtain ⟨tk, rfl⟩ := r
      exact ⟨z, List.mem_cons_self, tk, rfl⟩
    · obtain ⟨y, hy, e⟩ := strs_of t u hu
      exact ⟨y, List.mem_cons_of_mem _ hy, e⟩
end Own
/-! x in a tuple of texts, x any value -/
namespace Own
open PySem PySem.Spec PyProof.Rows L2 Sup
def rInS (K : PySem.W.Frag) : R2 := fun x y H Q => ∃ (t : Addr) (zs : List Str) (b : Bool), y = .ref t ∧ SqT K H t (zs.map V.str) ∧ InS K H zs x b ∧ Q (.bl b) H
def isTx (z : Str) (u : Value) : Bool := match u with | .str y _ => y == z | _ => false
theorem any_tx : ∀ {zs : List Str} {its : List Value} (z : Str), Vals (zs.map V.str) its → its.any (isTx z) = decide (z ∈ zs)
  | [], _, _, .nil => by simp
  | y :: zs, _, z, .cons r t => by
    obtain ⟨tk, rfl⟩ := r
    rw [List.any_cons, any_tx z t]
    refine Bool.eq_iff_iff.mpr ?_
    rw [Bool.or_eq_true, decide_eq_true_eq, decide_eq_true_eq, List.mem_cons]
    unfold isTx
    rw [beq_iff_eq]
    exact ⟨fun h => h.imp Eq.symm id, fun h => h.imp Eq.symm id⟩
theorem op_inS {X : Cx} (hu : X.A.in1.units < cLine) : OpR X (compareOp .In) (rInS X.K) := by
  intro pins s σ H x y v u Q I rx ry h
  obtain ⟨t, zs, b, rfl, ht, hb, q⟩ := h
  obtain rfl : u = Value.ref t := ry
  obtain ⟨its, r, pl, hz⟩ := I.tuple ht
  have fin : ∀ (e : Value → Bool), its.toArray.any e = b → (∀ y ∈ its, SeqAt.EqAt X.A.in1 s y v (e y)) → wpAny (model X.prog X.w) X.A (compareOp .In v (.ref t)) (EP X pins σ Q) X.xe s := fun e he hq => by
    refine SeqAt.in_tupleAt e pl (fun y hy => hq y (by simpa using hy)) ?_
    rw [he]
    exact ⟨.bl b, H, I, rfl, q⟩
  have no : b = false → (∀ z tk, SeqAt.EqAt X.A.in1 s (.str z tk) v false) → wpAny (model X.prog X.w) X.A (compareOp .In v (.ref t)) (EP X pins σ Q) X.xe s := fun eb hq => by
    refine fin (fun _ => false) ?_ fun y hy => ?_
    · rw [eb]
      simp
    · obtain ⟨z, _, tk, rfl⟩ := strs_of r y hy
      exact hq z tk
  cases hb with
  | str z =>
    obtain ⟨tz, rfl⟩ := rx
    refine fin (isTx z) ?_ fun y hy => ?_
    · exact (show its.toArray.any (isTx z) = its.any (isTx z) by simp).trans (any_tx z r)
    · obtain ⟨y, _, tk, rfl⟩ := strs_of r y hy
      exact SeqAt.EqAt.str_str _ _ _ _
  | non =>
    obtain rfl : v = Value.none := rx
    exact no rfl fun z tk => SeqAt.EqAt.str_none _ _
  | bl c =>
    obtain rfl : v = Value.bool c := rx
    exact no rfl fun z tk => SeqAt.EqAt.str_bool _ _ _
  | int i =>
    obtain ⟨ti, rfl⟩ := rx
    exact no rfl fun z tk => SeqAt.EqAt.str_int _ _ _ _
  | lst hq =>
    rename_i a xs
    obtain rfl : v = Value.ref a := rx
    obtain ⟨it2, _, p2, _⟩ := I.list hq
    exact no rfl fun z tk => SeqAt.EqAt.str_list _ _ p2.isList hu
  | tup hq =>
    rename_i a xs
    obtain rfl : v = Value.ref a := rx
    obtain ⟨it2, _, p2, _⟩ := I.tuple hq
    exact no rfl fun z tk => SeqAt.EqAt.str_tuple _ _ p2 hu
  | dic hq =>
    rename_i a kvs
    obtain rfl : v = Value.ref a := rx
    obtain ⟨_, _, vs, _, o, es, ep, ho, hx, hd, _⟩ := dk_of I.hok hq
    exact no rfl fun z tk => eqAt_str_dict ho hx hd hu
end Own
/-! set(t) of a tuple of texts, and sorted of such a set -/
namespace SetS
open PySem PySem.Spec PyProof.Rows L2
abbrev KS (P : Program) (w : World) := PySem.strKind P w
/-- the text that an entry holds -/
def txt (e : Int × Value) : Str := match e.2 with | .str x _ => x | _ => Str.empty
def Ent (w : World) (e : Int × Value) : Prop := ∃ x tk, e.2 = Value.str x tk ∧ e.1 = hashStr w x
/-- one more text -/
def addT (ks : List Str) (x : Str) : List Str := if x ∈ ks then ks else ks ++ [x]
/-- at a stands a set of just these texts, and it can be walked -/
def At (w : World) (h : Heap) (a : Addr) (ks : List Str) : Prop :=
  ∃ o es ep t, h.get? a = some o ∧ o.ExactSet ∧ o.data = .set es ep t ∧ ((∀ e ∈ es.toList, Ent w e) ∧ (es.toList.map txt).Perm ks) ∧ es.size < scanBound ∧ t.fits es.size = true ∧ Ris t.place.toList ∧ (w.params.followText "set-order" = true ∨ t.led = true)
section
variable {P : Program} {w : World} {h h' : Heap} {a : Addr} {ks : List Str}
theorem At.at (R : At w h a ks) (k : ∀ o, h.get? a = some o → h'.get? a = some o) : At w h' a ks := by
  obtain ⟨o, es, ep, t, ho, r⟩ := R
  exact ⟨o, es, ep, t, k o ho, r⟩
theorem ent_is {e : Int × Value} (g : Ent w e) (k : Str) : (KS P w).is k e.2 = true ↔ txt e = k := by
  obtain ⟨x, tk, h1, _⟩ := g
  unfold txt
  rw [h1]
  show ((x == k) = true) ↔ x = k
  exact beq_iff_eq
theorem ent_elems {l : List (Int × Value)} (g : ∀ e ∈ l, Ent w e) : ElemsOf (KS P w) l := fun e he => by
  obtain ⟨x, tk, h1, h2⟩ := g e he
  exact ⟨⟨x, (ent_is (g e he) x).mpr (by unfold txt; rw [h1]), h2⟩, by rw [h1] <;> rfl⟩
end
section
variable {P : Program} {w : World} {A : Around} {E : Value → Shared → Prop} {s : Shared} {a : Addr} {ks : List Str}
/-- the end of add: what is stored -/
theorem add_tail {g : Bool → Sem Unit} (hg : ∀ (b : Bool) (s₁ : Shared) (Q' : Unit → Shared → Prop), Q' () s₁ → wpAny (model P w) A (g b) Q' E s₁)
    {o : Obj} {es : Array (Int × Value)} {ep : Nat} {t : SetTable} (ho : s.heap.get? a = some o) (hex : o.ExactSet) (hd : o.data = .set es ep t)
    {es1 : Array (Int × Value)} {t2 : SetTable} (g1 : (∀ e ∈ es1.toList, Ent w e) ∧ (es1.toList.map txt).Perm ks) (hb1 : es1.size < scanBound) (hf2 : t2.fits es1.size = true) (hr : Ris t2.place.toList) (hl : w.params.followText "set-order" = true ∨ t2.led = true) {wasDummy : Bool} {R : Option Bool → Shared → Prop}
    (hR : ∀ h', Heap.SameBut a s.heap h' → At w h' a ks → R (some true) { s with heap := h' }) :
    wpAny (model P w) A (do
        storeSet a es1 t2
        if (!wasDummy && t2.tooFull) = true then do
            g (relayAll t2 es1 (SetTable.grown es1.size)).2.2
            storeSet a (relayAll t2 es1 (SetTable.grown es1.size)).1 (relayAll t2 es1 (SetTable.grown es1.size)).2.1
            pure (some true)
          else pure (some true)) R E s := by
  have b1 := Heap.SameBut.update s.heap a (Obj.putSet es1 t2)
  have o1 := store_at (es' := es1) (t' := t2) ho hd
  refine wpAny_bind (wpAny_storeSet_of ho hd ?_ (fits_of_scanBound hb1))
  split
  · have r1 := relayAll_perm t2 es1 (SetTable.grown es1.size)
    have r2 := relayAll_fits t2 es1 (SetTable.grown es1.size)
    have r3 := relayAll_ris t2 es1 (SetTable.grown es1.size)
    have r4 := relayAll_led t2 es1 (SetTable.grown es1.size)
    generalize relayAll t2 es1 (SetTable.grown es1.size) = Z at r1 r2 r3 r4 ⊢
    obtain ⟨es2, t3, gave⟩ := Z
    dsimp only at r1 r2 r3 r4 ⊢
    have hb2 : es2.size < scanBound := by rw [← Array.length_toList, r1.length_eq, Array.length_toList]; exact hb1
    refine wpAny_bind (hg _ _ _ (wpAny_bind (wpAny_storeSet_of o1 rfl (wpAny_pure (hR _ (b1.trans (Heap.SameBut.update _ a _)) ?_)) (fits_of_scanBound hb2))))
    exact ⟨_, es2, _, t3, store_at (es' := es2) (t' := t3) o1 rfl, hex, rfl, ⟨fun e he => g1.1 e (r1.mem_iff.mp he), (r1.map txt).trans g1.2⟩, hb2, r2, r3, hl.imp id fun z => by rw [r4]; exact z⟩
  · exact wpAny_pure (hR _ b1 ⟨_, es1, _, t2, o1, hex, rfl, g1, hb1, hf2, hr, hl⟩)
theorem add_text {x : Str} {tk : Tok} {Q : Bool → Shared → Prop} (R : At w s.heap a ks) (room : ks.length + 1 < scanBound) (hQ : ∀ b h', Heap.SameBut a s.heap h' → At w h' a (addT ks x) → Q b { s with heap := h' }) :
    wpAny (model P w) A (setAddHashed a (.str x tk) ((KS P w).hash x)) Q E s := by
  obtain ⟨o, es, ep, t, ho, hex, hd, ⟨g, pk⟩, hb, hf, hr, hl⟩ := R
  have hsc : (Value.str x tk).scannable = true := rfl
  have hkey : (KS P w).is x (.str x tk) = true := beq_self_eq_true x
  have hel : ElemsOf (KS P w) es.toList := ent_elems g
  have hmem : x ∈ ks ↔ ∃ e ∈ es.toList, txt e = x := by rw [← pk.mem_iff, List.mem_map]
  have hn : es.size = ks.length := by rw [← pk.length_eq, List.length_map, Array.length_toList]
  unfold setAddHashed setAddHashedIn
  refine wpAny_holding (wpAny_bind (wpAny_setState_of ho hd hf ?_))
  dsimp only
  rw [byScan_of hsc hb hel]
  simp only [↓reduceIte]
  unfold setAddByScan
  refine wpAny_bind (wpAny_bind (wpAny_rule (wpAny_bind (wpAny_setScan_of hkey ho hd hf hel ?_))))
  cases hfi : List.findIdx? (fun e => (KS P w).is x e.2) es.toList with
  | some j =>
    dsimp only
    obtain ⟨hj, pj, _⟩ := List.findIdx?_eq_some_iff_getElem.mp hfi
    have hin : x ∈ ks := hmem.mpr ⟨es.toList[j], List.getElem_mem hj, (ent_is (g _ (List.getElem_mem hj)) x).mp pj⟩
    refine wpAny_pure (wpAny_pure (hQ _ s.heap (Heap.SameBut.refl a s.heap) ?_))
    unfold addT
    rw [if_pos hin]
    exact ⟨o, es, ep, t, ho, hex, hd, ⟨g, pk⟩, hb, hf, hr, hl⟩
  | none =>
    dsimp only
    have hout : x ∉ ks := fun m => by
      obtain ⟨e, he, q⟩ := hmem.mp m
      have c := List.findIdx?_eq_none_iff.mp hfi e he
      rw [(ent_is (g e he) x).mpr q] at c
      cases c
    have r1 := layNew_perm t es ((KS P w).hash x) (.str x tk)
    have r2 := layNew_fits t es ((KS P w).hash x) (.str x tk)
    have r3 := layNew_ris t es ((KS P w).hash x) (.str x tk) hr
    have r4 := layNew_led t es ((KS P w).hash x) (.str x tk)
    generalize layNew t es ((KS P w).hash x) (.str x tk) = Z at r1 r2 r3 r4 ⊢
    obtain ⟨es1, t1, wasDummy, gave⟩ := Z
    dsimp only at r1 r2 r3 r4 ⊢
    rw [Array.toList_push] at r1
    have g1 : (∀ e ∈ es1.toList, Ent w e) ∧ (es1.toList.map txt).Perm (addT ks x) := by
      refine ⟨fun e he => ?_, ?_⟩
      · rcases List.mem_append.mp (r1.mem_iff.mp he) with z | z
        · exact g e z
        · rw [List.mem_singleton.mp z]
          exact ⟨x, tk, rfl, rfl⟩
      · unfold addT
        rw [if_neg hout]
        refine (r1.map txt).trans ?_
        rw [List.map_append]
        exact pk.append_right _
    have hb1 : es1.size < scanBound := by
      rw [← Array.length_toList, r1.length_eq, List.length_append, Array.length_toList, hn]
      exact room
    have hled : w.params.followText "set-order" = true ∨ t1.led = true := hl.imp id fun z => by rw [r4]; exact z
    refine wpAny_bind ?_
    refine (show ∀ (b : Bool) {s₁ : Shared} {Q' : Unit → Shared → Prop}, Q' () s₁ → wpAny (model P w) A (match b with | true => rule "set.scan.the-table-gave-way" | false => pure ()) Q' E s₁ from
      fun b s₁ Q' q => by cases b <;> first | exact wpAny_pure q | exact wpAny_rule q) _ ?_
    split
    · refine wpAny_bind ?_
      rw [hashByValue_scannable 8 hsc]
      refine wpAny_pure ?_
      refine add_tail ?_ ho hex hd g1 hb1 ?_ ?_ ?_ ?_
      · intro b s₁ Q' q
        cases b <;> first | exact wpAny_pure q | exact wpAny_rule q
      · first | (split <;> first | exact r2 | exact SetTable.fits_plain_off r2) | exact r2
      · first | (split <;> exact r3) | exact r3
      · first | (split <;> exact hled) | exact hled
      · intro h' sb r
        dsimp only
        exact wpAny_pure (hQ _ h' sb r)
    · refine wpAny_bind (wpAny_pure ?_)
      simp only [↓reduceIte]
      refine add_tail ?_ ho hex hd g1 hb1 r2 r3 hled ?_
      · intro b s₁ Q' q
        cases b <;> first | exact wpAny_pure q | exact wpAny_rule q
      · intro h' sb r
        dsimp only
        exact wpAny_pure (hQ _ h' sb r)
end
/-- all of them -/
def setL (xs : List Str) : List Str := xs.foldl addT []
theorem addT_len (ks : List Str) (x : Str) : (addT ks x).length ≤ ks.length + 1 := by
  unfold addT
  split
  · omega
  · rw [List.length_append]
    exact Nat.le_refl _
theorem fold_len : ∀ (xs : List Str) (ks : List Str), (xs.foldl addT ks).length ≤ ks.length + xs.length
  | [], ks => Nat.le_refl _
  | x :: xs, ks => by
    have := fold_len xs (addT ks x)
    have := addT_len ks x
    show (xs.foldl addT (addT ks x)).length ≤ ks.length + (xs.length + 1)
    omega
theorem setL_len (xs : List Str) : (setL xs).length ≤ xs.length := Nat.le_trans (fold_len xs []) (by simp)
theorem at_new {w : World} {h : Heap} {a : Addr} (ho : h.get? a = some { cls := .type "set", dict := none, data := .set #[] 0 (.fresh 0 0 (!w.params.followText "set-order")) }) : At w h a [] :=
  ⟨_, #[], 0, _, ho, ⟨rfl, rfl, rfl⟩, rfl, ⟨(fun e he => by simp at he), .refl _⟩, (by decide), (by rfl), List.Pairwise.nil, by
    show _ ∨ (!w.params.followText "set-order") = true
    cases w.params.followText "set-order"
    · exact .inr rfl
    · exact .inl rfl⟩
section
variable {P : Program} {w : World} {A : Around} {E : Value → Shared → Prop} {s : Shared}
theorem fill_texts {I : Addr} {fp wr : List Addr} {G : Array GenState → Array GenState → Prop} {n : Nat} {Pv : Nat → Value → Prop} {St : Nat → Shared → Prop} {R : Result → Shared → Prop}
    (W : WalksS P w A.in1 I fp wr G n Pv St) (S : Addr) (hSf : S ∉ fp) (xs : List Str) (hn : n = xs.length) (hb : xs.length + 1 < scanBound) (hval : ∀ i v, Pv i v → ∃ x t, xs[i]? = some x ∧ v = .str x t) :
    ∀ (k i : Nat) (s : Shared), n - i = k → i ≤ n → St i s → At w s.heap S (setL (xs.take i)) →
      (∀ s', Moved (S :: wr) G s s' → At w s'.heap S (setL xs) → R (.ok (.ret .none)) s') →
      codeAny (model P w) A (.builtin "set.update.loop" ⟨[.ref S, .ref I], []⟩) R s := by
  have out : S ∉ wr := fun h => hSf (W.sub _ h)
  have up : ∀ b ∈ wr, b ∈ S :: wr := fun b hb => List.mem_cons_of_mem _ hb
  intro k
  induction k with
  | zero =>
    intro i s hk' hi hst hS hR
    obtain rfl : i = n := by omega
    rw [List.take_of_length_le (by omega)] at hS
    refine codeAny_builtin F.entry_set_update_loop ?_
    rw [Around.under_plainId F.plain_set_update_loop _]
    refine wpAny_bind (W.done s _ _ hst fun s' hm => ?_)
    exact wpAny_pure (hR s' (hm.mono up) (hS.at fun o e => hm.heap S o out e))
  | succ k ih =>
    intro i s hk' hi hst hS hR
    have lt : i < n := by omega
    refine codeAny_builtin F.entry_set_update_loop ?_
    rw [Around.under_plainId F.plain_set_update_loop _]
    refine wpAny_bind (W.item i s _ _ lt hst fun v s' hP hst' hm => ?_)
    obtain ⟨x, t, hx, rfl⟩ := hval i v hP
    have hS' : At w s'.heap S (setL (xs.take i)) := hS.at fun o e => hm.heap S o out e
    refine wpAny_bind (wpAny_holding ?_)
    unfold setAdd
    refine wpAny_holding (wpAny_bind ((KS P w).pyHash (k := x) (beq_self_eq_true x) ?_))
    have room : (setL (xs.take i)).length + 1 < scanBound := by
      have := setL_len (xs.take i)
      rw [List.length_take] at this
      omega
    refine add_text (s := { s' with toks := s'.toks + 1 }) hS' room fun b h' hsb hS2 => ?_
    have e : addT (setL (xs.take i)) x = setL (xs.take (i + 1)) := by
      unfold setL
      rw [List.take_add_one, hx, List.foldl_append]
      rfl
    rw [e] at hS2
    refine wpAny_pure ⟨plainId_quiet F.plain_set_update_loop _, ih (i + 1) _ (by omega) lt (W.frame _ s' _ _ hst' (Nat.le_succ _) fun b hb o e => ?_) hS2 fun s'' hm'' hS'' => ?_⟩
    · rw [hsb.2 b (fun h : b = S => hSf (by rw [← h]; exact hb))]
      exact e
    · refine hR s'' (Moved.trans W.gtrans ((hm.mono up).then_heap (Nat.le_succ _) fun b o hb e => ?_) hm'') hS''
      rw [hsb.2 b (fun h : b = S => hb (by rw [h]; exact List.mem_cons_self))]
      exact e
end
/-- such a set, as what stands at an address -/
def SetX (w : World) (a : Addr) (ks : List Str) : HO := .ext fun h => At w h a ks
end SetS
/-! set(xs) of a list of texts, and how many there are -/
namespace SetS
open PySem PySem.Spec PyProof.Rows L2
section
variable {P : Program} {w : World} {A : Around} {E : Value → Shared → Prop} {s : Shared}
set_option maxHeartbeats 3200000 in
/-- set(xs) -/
theorem set_of_list {l : Addr} {items : Array Value} {xs : List Str} {Q : Value → Shared → Prop} (hh : A.handled = none) (hl : s.heap.IsList l items) (hit : PyProof.Rows.StrsAre items.toList xs) (hb : xs.length + 1 < scanBound)
    (h : ∀ (h' : Heap) (tk : Nat), At w h' s.heap.objs.size (setL xs) → (∀ b o, s.heap.get? b = some o → h'.get? b = some o) → Q (.ref s.heap.objs.size) { s with heap := h', toks := tk }) :
    wpAny (model P w) A (call (.type "set") [.ref l]) Q E s := by
  have hisz : items.size = xs.length := by rw [← PyProof.Rows.StrsAre.len_eq hit, Array.length_toList]
  obtain ⟨c, tl, hmro⟩ := F.called_set.mro
  have hmade := F.called_set.made
  have hsub := F.called_set.sub
  refine wpAny_call (codeAny_of_tree ?_)
  show wpAny _ _ (callAny (.type "set") _) _ _ _
  refine wpAny_pure ⟨Code.quiet_builtin _ (by decide +kernel), codeAny_builtin F.entry_type_call ?_⟩
  rw [Around.under_plain (weight_type_call_type "set" [.ref l] []) rfl]
  have h1 := F.called_set.notType
  have h2 := F.called_set.canCreate
  have hct := F.typeCall_set_1 (.ref l)
  repeat (any_goals (first | assumption | wp_step))
  obtain ⟨N, eN⟩ : ∃ N : Heap, N = s.heap.push { cls := .type "set", dict := none, data := .set #[] 0 (.fresh 0 0 (!w.params.followText "set-order")) } := ⟨_, rfl⟩
  refine codeAny_mono (code_set_led1 (.ref l) (E := E) (Q₁ := fun obj s₁ => obj = .ref s.heap.objs.size ∧ s₁ = { s with heap := N }) ⟨rfl, by rw [eN]⟩) fun r s₁ hr => ?_
  cases r with
  | error e => exact hr
  | ok fl =>
    cases fl with
    | ret obj =>
      obtain ⟨rfl, rfl⟩ := hr
      have hS : N.get? s.heap.objs.size = some { cls := .type "set", dict := none, data := .set #[] 0 (.fresh 0 0 (!w.params.followText "set-order")) } := by rw [eN]; exact Heap.get?_push_size _ rfl
      have hsz : N.objs.size = s.heap.objs.size + 1 := by rw [eN]; exact Heap.size_push ..
      have hold : ∀ b o, s.heap.get? b = some o → N.get? b = some o := fun b o e => by rw [eN]; exact Heap.get?_push_of_some _ e
      have hT : Shared.TypeIs { s with heap := N } (.ref s.heap.objs.size) "set" := ⟨_, hS, rfl⟩
      have hli := F.called_set.init.lookup
      have hbi := F.called_set.init.bind (.ref s.heap.objs.size)
      repeat (any_goals (first | assumption | wp_step))
      refine codeAny_mono (codeAny_call_builtin (R := wants (fun r s₂ => r = .none ∧ ∃ h' tk, s₂ = { s with heap := h', toks := tk } ∧ At w h' s.heap.objs.size (setL xs) ∧ (∀ b o, s.heap.get? b = some o → h'.get? b = some o)) E) F.called_set.init.plain F.entry_set_init (check_set_init_1 hT ?_)) fun r₂ s₂ hr₂ => ?_
      · obtain ⟨ol, hol, hcl, nl, hdl⟩ := id hl
        obtain ⟨ocls, odict, odata, oslots⟩ := ol
        simp only at hcl hdl
        subst hcl; subst hdl
        have hol' := hold l _ hol
        have hsls := F.sub_list_set
        have hslf := F.sub_list_frozenset
        have hne : (Value.type "list" == Value.type "dict") = false := by decide
        have hl1 : N.IsList l items := ⟨_, hol', rfl, nl, rfl⟩
        unfold Builtin.«set.__init__» noKeywords Builtin.Frozenset.updateFrom
        generalize hPI : pyIter = PI
        wp_walk
        subst hPI
        refine wpAny_pyIter_list hl1 ?_
        refine wpAny_bind (wpAny_runValue ?_)
        have hlS : l < s.heap.objs.size := Heap.lt_size hol
        have hneI : l ≠ N.objs.size := by rw [hsz]; exact Nat.ne_of_lt (Nat.lt_succ_of_lt hlS)
        have hSf : s.heap.objs.size ∉ [N.objs.size, l] := by
          simp only [List.mem_cons, List.mem_singleton, List.not_mem_nil, or_false, not_or]
          exact ⟨by rw [hsz]; exact Nat.ne_of_lt (Nat.lt_succ_self _), Nat.ne_of_gt hlS⟩
        have hval : ∀ (i : Nat) (v : Value), items[i]? = some v → ∃ x t, xs[i]? = some x ∧ v = .str x t := fun i v hv => by
          have hi : i < xs.length := by rw [← hisz]; exact (Array.getElem?_eq_some_iff.mp hv).1
          obtain ⟨t, e⟩ := SS.strs_at hit i v (by rw [Array.getElem?_toList]; exact hv)
          refine ⟨xs[i], t, List.getElem?_eq_getElem hi, ?_⟩
          rw [e, List.getD_eq_getElem?_getD, List.getElem?_eq_getElem hi] <;> rfl
        refine fill_texts ((Walks.list (by simp [hh]) _ l hneI items).toS) s.heap.objs.size hSf xs hisz hb hval (items.size - 0) 0 _ (by omega) (Nat.zero_le _)
          ⟨⟨_, Heap.get?_push_size _ rfl, rfl, rfl⟩, (hl1.push _)⟩ ?hS0 ?hR
        case hS0 => exact at_new (Heap.get?_push_of_some _ hS)
        case hR =>
          intro s' hm hS'
          obtain ⟨h', g2, d', tk', os'⟩ := s'
          have eg : g2 = s.gens := hm.gens
          have ed : d' = s.drawn := hm.drawn
          have eo : os' = s.os := hm.os
          subst eg; subst ed; subst eo
          refine wpAny_pure ?_
          show wpAny _ _ (ret Value.none) _ _ _
          refine wpAny_pure ⟨rfl, h', tk', rfl, hS', fun b o e => ?_⟩
          have hb0 : b < s.heap.objs.size := Heap.lt_size e
          refine hm.heap b o ?_ (Heap.get?_push_of_some _ (hold b o e))
          simp only [List.mem_cons, List.mem_singleton, List.not_mem_nil, or_false, not_or]
          exact ⟨Nat.ne_of_lt hb0, by rw [hsz]; exact Nat.ne_of_lt (Nat.lt_succ_of_lt hb0)⟩
      · cases r₂ with
        | error e => exact hr₂
        | ok fl₂ =>
          cases fl₂ with
          | ret r =>
            obtain ⟨rfl, h', tk, rfl, hS', hk'⟩ := hr₂
            repeat (any_goals (first | assumption | wp_step))
            exact h _ _ hS' hk'
          | _ => exact hr₂.elim
    | _ => exact hr.elim
end
section
variable {X : Cx}
def rSetL (K : PySem.W.Frag) (w : World) : List V → Hp → VK → Prop := fun xs H Q => ∃ (t : Addr) (zs : List Str), xs = [.ref t] ∧ SqL K H t (zs.map V.str) ∧ zs.length < 1000 ∧ ∀ p, H p = none → Q (.ref p) (upd H p (SetX w p (setL zs)))
theorem call_setL (hc : X.calm = true) : CallR X (.type "set") (rSetL X.K X.w) := by
  intro pins s σ H xs us Q I r h
  obtain ⟨t, zs, rfl, ht, hl, q⟩ := h
  obtain ⟨its, rv, pl, hz⟩ := I.list ht
  rw [Vals.ref1 r]
  refine set_of_list (I.ok.hd hc) pl.isList rv.strs (by unfold scanBound; omega) fun h' tk hA hk => ?_
  exact ⟨.ref _, upd H s.heap.objs.size (SetX X.w s.heap.objs.size (setL zs)), I.laid (t' := tk) hk (Nat.le_refl _) ⟨hA, hA.elim fun o h => h.elim fun _ h => h.elim fun _ h => h.elim fun _ h => ⟨o, h.1⟩, fun h1 h2 p k => At.at p k⟩, rfl, q _ (I.hok.fresh (Nat.le_refl _))⟩
theorem setL_same {zs : List Str} (h : zs.Nodup) : setL zs = zs := by
  have go : ∀ (xs ks : List Str), (ks ++ xs).Nodup → xs.foldl addT ks = ks ++ xs := by
    intro xs
    induction xs with
    | nil => intro ks _; rw [List.append_nil]; rfl
    | cons x xs ih =>
      intro ks h
      have hx : x ∉ ks := fun m => (List.nodup_append.mp h).2.2 x m x List.mem_cons_self rfl
      show xs.foldl addT (addT ks x) = _
      rw [show addT ks x = ks ++ [x] from if_neg hx, ih _ (by rw [List.append_assoc]; exact h), List.append_assoc]
      rfl
  exact (go zs [] h).trans rfl
/-- len(set) -/
def rLenX (w : World) : List V → Hp → VK → Prop := fun xs H Q => ∃ (a : Addr) (ks : List Str), xs = [.ref a] ∧ H a = some (SetX w a ks) ∧ Q (.int (ks.length : Nat)) H
theorem At.setOf {P : Program} {w : World} {h : Heap} {a : Addr} {ks : List Str} (R : At w h a ks) : h.SetOf (KS P w) a (fun k => decide (k ∈ ks)) ks.length := by
  obtain ⟨o, es, ep, t, ho, hx, hd, ⟨g, pk⟩, hb, hf, _⟩ := R
  refine ⟨o, es, ep, t, ho, hx, hd, ent_elems g, fun k => ?_, hb, hf, by rw [← pk.length_eq, List.length_map, Array.length_toList]⟩
  rw [decide_eq_true_eq, ← pk.mem_iff, List.mem_map]
  exact ⟨fun ⟨e, he, q⟩ => ⟨e, he, (ent_is (g e he) k).mpr q⟩, fun ⟨e, he, q⟩ => ⟨e, he, (ent_is (g e he) k).mp q⟩⟩
theorem call_lenX : CallR X (.builtin "len") (rLenX X.w) := by
  intro pins s σ H xs us Q I r h
  obtain ⟨p, ks, rfl, hp, q⟩ := h
  obtain ⟨u, rfl, rx⟩ := vals1 r
  cases rx
  obtain ⟨o, es, ep, t, ho, hex, hd, _, _, hb, hf, hn⟩ := At.setOf (P := X.prog) (I.hok p _ hp).1
  exact call_len_set ho hex hd hf (Int.lt_trans (Int.ofNat_lt.mpr hb) (by decide)) ⟨.int ks.length, H, I.tok _, ⟨_, by rw [hn]⟩, q⟩
end
end SetS
/-! sorted of a list of tuples of texts -/
namespace SortB
open PySem PySem.Spec PyProof.Rows L2
abbrev Ord := listOrd itemOrd
/-- a tuple of texts, as it is ordered -/
def rowKey (zs : List Str) : List (Int ⊕ List Nat) := zs.map fun z => Sum.inr z.cps.toList
def RLe (xs ys : List Str) : Prop := Ord.kle (rowKey xs) (rowKey ys)
theorem str_ext {a b : Str} (h : a.cps.toList = b.cps.toList) : a = b := PySem.Str.ext' (by rw [← Array.toArray_toList (xs := a.cps), ← Array.toArray_toList (xs := b.cps), h])
theorem rowKey_inj : ∀ {xs ys : List Str}, rowKey xs = rowKey ys → xs = ys
  | [], [], _ => rfl
  | [], _ :: _, h => by cases h
  | _ :: _, [], h => by cases h
  | x :: xs, y :: ys, h => by
    obtain ⟨h1, h2⟩ := List.cons.inj h
    rw [str_ext (Sum.inr.inj h1), rowKey_inj (xs := xs) (ys := ys) h2]
theorem rle_anti {xs ys : List Str} (h1 : RLe xs ys) (h2 : RLe ys xs) : xs = ys := rowKey_inj (KeyOrd.kle_antisymm h1 h2)
/-- sorted lists of the same tuples are one -/
theorem rows_uniq : ∀ {xs ys : List (List Str)}, xs.Perm ys → xs.Pairwise RLe → ys.Pairwise RLe → xs = ys
  | [], ys, hp, _, _ => (List.nil_perm.mp hp).symm
  | x :: xs, [], hp, _, _ => absurd (List.perm_nil.mp hp) (by simp)
  | x :: xs, y :: ys, hp, hx, hy => by
    obtain ⟨x1, x2⟩ := List.pairwise_cons.mp hx
    obtain ⟨y1, y2⟩ := List.pairwise_cons.mp hy
    have e : x = y := by
      have mx : x ∈ y :: ys := hp.mem_iff.mp List.mem_cons_self
      have my : y ∈ x :: xs := hp.mem_iff.mpr List.mem_cons_self
      rcases List.mem_cons.mp mx with e | mx
      · exact e
      rcases List.mem_cons.mp my with e | my
      · exact e.symm
      · exact rle_anti (x1 y my) (y1 x mx)
    subst e
    rw [rows_uniq (List.perm_cons x |>.mp hp) x2 y2]
theorem perm_map_inv {α β : Type} {f : α → β} : ∀ {L : List α} {xs : List β}, xs.Perm (L.map f) → ∃ ps : List α, ps.Perm L ∧ xs = ps.map f := by
  intro L xs h
  generalize hm : L.map f = m at h
  induction h generalizing L with
  | nil => exact ⟨[], by rw [List.map_eq_nil_iff.mp hm], rfl⟩
  | cons x h ih =>
    match L, hm with
    | a :: L, hm =>
      obtain ⟨h1, h2⟩ := List.cons.inj hm
      obtain ⟨ps, p1, p2⟩ := ih h2
      exact ⟨a :: ps, p1.cons a, by rw [List.map_cons, h1, p2]⟩
  | swap x y l =>
    match L, hm with
    | a :: b :: L, hm =>
      obtain ⟨h1, h2⟩ := List.cons.inj hm
      obtain ⟨h3, h4⟩ := List.cons.inj h2
      exact ⟨b :: a :: L, List.Perm.swap a b L, by rw [List.map_cons, List.map_cons, h1, h3, h4]⟩
  | trans h1 h2 ih1 ih2 =>
    obtain ⟨ps, p1, p2⟩ := ih2 hm
    obtain ⟨qs, q1, q2⟩ := ih1 p2.symm
    exact ⟨qs, q1.trans p1, q2⟩
theorem items_key : ∀ {us : List Value} {zs : List Str} (i : Nat), Vals (zs.map V.str) us → tupItems (fun _ => true) i us = some (rowKey zs)
  | [], [], _, _ => rfl
  | u :: us, z :: zs, i, h => by
    cases h with
    | cons r t =>
      obtain ⟨tk, rfl⟩ := r
      show (if true = true then (tupItems (fun _ => true) (i + 1) us).map (Sum.inr z.cps.toList :: ·) else none) = _
      rw [if_pos rfl, items_key (i + 1) t]
      rfl
section
variable {X : Cx}
def rSortTT (K : PySem.W.Frag) : List V → Hp → VK → Prop := fun xs H Q => ∃ (a : Addr) (L : List (Addr × List Str)), xs = [.ref a] ∧ SqL K H a (L.map fun x => V.ref x.1) ∧ (∀ x ∈ L, SqT K H x.1 (x.2.map V.str) ∧ x.2 ≠ []) ∧ L.length ≤ 1000 ∧
  ∀ (ps : List (Addr × List Str)) (p : Addr), ps.Perm L → (ps.map (·.2)).Pairwise RLe → H p = none → Q (.ref p) (upd H p (.lst (ps.map fun x => V.ref x.1)))
theorem call_sortedTT : CallR X (.builtin "sorted") (rSortTT X.K) := by
  intro pins s σ H xs us Q I r h
  obtain ⟨a, L, rfl, hs, hL, hl, q⟩ := h
  obtain ⟨its, rv, hlst, _⟩ := I.list hs
  rw [Vals.ref1 r]
  have eits : its = L.map fun x => Value.ref x.1 := by
    have go : ∀ (L : List (Addr × List Str)) (us : List Value), Vals (L.map fun x => V.ref x.1) us → us = L.map fun x => Value.ref x.1 := by
      intro L
      induction L with
      | nil => intro us h; cases h; rfl
      | cons x L ih =>
        intro us h
        cases h with
        | cons r t => rw [show _ = Value.ref x.1 from r, ih _ t]; rfl
    exact go L its rv
  have key : ∀ x ∈ L, G.tupKeyC s.heap (fun _ => true) (.ref x.1) = some (rowKey x.2) ∧ ∃ f, TupOf s.heap (fun _ => true) (.ref x.1) f := fun x hx => by
    obtain ⟨ht, hne⟩ := hL x hx
    obtain ⟨us, ru, pl, hz⟩ := I.tuple ht
    obtain ⟨o, ho, hc, n, hd⟩ := pl
    have hk := items_key 0 ru
    refine ⟨?_, ?_⟩
    · unfold G.tupKeyC
      have : G.isTupObj s.heap (.ref x.1) = true := by
        simp only [G.isTupObj, ho, hc]
        exact beq_self_eq_true "tuple"
      rw [if_pos this]
      simp only [tupKey, ho, hd]
      exact hk
    · match us, x.2, ru, hne with
      | [], [], _, hne => exact absurd rfl hne
      | u :: us, z :: zs, .cons r0 t0, _ =>
        obtain ⟨tk, rfl⟩ := r0
        exact ⟨_, x.1, o, _, n, rfl, ho, hc, hd, rfl, fun h => (Bool.noConfusion h), fun _ => ⟨z, tk, rfl⟩⟩
  have tups : ∀ L' : List (Addr × List Str), (∀ x ∈ L', x ∈ L) → ∃ fs, TupsOf s.heap (fun _ => true) (L'.map fun x => Value.ref x.1) fs := by
    intro L'
    induction L' with
    | nil => exact fun _ => ⟨[], .nil⟩
    | cons x L' ih =>
      intro h
      obtain ⟨f, hf⟩ := (key x (h x List.mem_cons_self)).2
      obtain ⟨fs, hfs⟩ := ih fun y hy => h y (List.mem_cons_of_mem _ hy)
      exact ⟨f :: fs, .cons hf hfs⟩
  obtain ⟨fs, hfs⟩ := tups L fun _ h => h
  have hlen : its.length = L.length := by rw [eits, List.length_map]
  refine G.sorted_tups (shape := fun _ => true) (vs := its) (fs := fs) hlst.isList (by rw [eits]; exact hfs) (fun v hv => ?_) (by rw [hlen]; exact Nat.le_trans hl (by decide)) fun st' hp hso _ => ?_
  · rw [eits] at hv
    obtain ⟨x, hx, rfl⟩ := List.mem_map.mp hv
    exact ⟨_, (key x hx).1⟩
  -- what stands there
  have hl2 : (arrOf st').toList.Perm (its.zip its) := by rw [← pairsOf_toList]; exact Array.perm_iff_toList_perm.mp hp
  have hmem : ∀ p, p ∈ (arrOf st').toList → p.1 = p.2 ∧ p.1 ∈ its := fun p hp' => mem_zip_self (hl2.mem_iff.mp hp')
  have e1 : ((arrOf st').toList.map (·.1)).Perm its := by
    have := hl2.map (·.1)
    rwa [show (its.zip its).map (·.1) = its from List.map_fst_zip (Nat.le_refl _)] at this
  rw [eits] at e1
  obtain ⟨ps, hps, eps⟩ := perm_map_inv e1
  have e2 : ((arrOf st').map (·.2)).toList = ps.map fun x => Value.ref x.1 := by
    rw [Array.toList_map, ← eps]
    exact List.map_congr_left fun p hp' => (hmem p hp').1.symm
  have hsz : (arrOf st').size = ps.length := by
    have := congrArg List.length eps
    rwa [List.length_map, List.length_map, Array.length_toList] at this
  have hpz : (pairsOf its).size = ps.length := by rw [pairsOf_size, hlen, hps.length_eq]
  have kk : ∀ i (hi : i < ps.length), KK (G.tupKindC s.heap fun _ => true) (arrOf st') i = rowKey ps[i].2 := fun i hi => by
    unfold KK
    have hi2 : i < (arrOf st').size := by omega
    rw [Array.getElem?_eq_getElem hi2]
    have e3 : ((arrOf st')[i]).1 = .ref ps[i].1 := by
      have := congrArg (fun l : List Value => l[i]?) eps
      rw [List.getElem?_map, List.getElem?_map, List.getElem?_eq_getElem hi, List.getElem?_eq_getElem (by rw [Array.length_toList]; exact hi2)] at this
      exact Option.some.inj this
    dsimp only
    rw [e3]
    show (G.tupKeyC s.heap (fun _ => true) (.ref ps[i].1)).getD _ = _
    rw [(key ps[i] (hps.mem_iff.mp (List.getElem_mem hi))).1]
    rfl
  have hpw : (ps.map (·.2)).Pairwise RLe := by
    rw [List.pairwise_iff_getElem]
    intro i j hi hj hij
    rw [List.length_map] at hi hj
    have := hso i j (Nat.le_of_lt hij) (by rw [hpz]; exact hj)
    rw [kk i hi, kk j hj] at this
    rw [List.getElem_map, List.getElem_map]
    exact this
  obtain ⟨ep, he'⟩ := PyProof.Rows.sortedAll_at s.heap its ((arrOf st').map (·.2))
  have hlen2 : (ps.map fun x => V.ref x.1).length ≤ sizeLine := by
    rw [List.length_map, hps.length_eq]
    exact Nat.le_trans hl (by decide)
  have vals : ∀ ps : List (Addr × List Str), Vals (ps.map fun x => V.ref x.1) (ps.map fun x => Value.ref x.1) := by
    intro ps
    induction ps with
    | nil => exact .nil
    | cons x ps ih => exact .cons rfl ih
  exact ⟨.ref _, upd H (s.heap.objs.size + 1) (.lst (ps.map fun x => V.ref x.1)), I.laid (t' := s.toks) (fun _ _ => PyProof.Rows.sortedAll_old) (Nat.le_succ _) ⟨hlen2, ((arrOf st').map (·.2)).toList, ep, by rw [e2]; exact vals ps, by rw [Array.toArray_toList]; exact he'⟩, rfl, q ps _ hps hpw (I.hok.fresh (Nat.le_succ _))⟩
end
end SortB
/-! try: .. / except x as e: c = e, and what c holds behind it -/
namespace KepE
open PySem PySem.Spec PyProof.Rows L2
/-- a caught exception at a: its class, its dict -/
def Kept (a : Addr) (cls : Value) (d : Option Addr) : HO := .ext fun h => ∃ (oe : Obj) (vs : Array Value), h.get? a = some oe ∧ Zc cls d oe ∧ oe.data = .fields vs
section
variable {X : Cx} {pins : List (Addr × Obj)} {s : Shared} {σ : L2.St} {H : Hp} {a : Addr}
/-- an object that was made since the entry is followed from now on -/
theorem track {o : HO} (I : Inv X pins σ H s) (h0 : X.s_0.heap.get? a = none) (hn : H a = none) (nL : a ≠ X.env.locals) (nC : ∀ x c, X.env.cells.lookup x = some c → c ≠ a) (nP : ∀ p ∈ X.pn ++ pins, p.1 ≠ a) (new : ObjOk X.prog X.w (upd H a o) s.heap a o) : Inv X pins σ (upd H a o) s := by
  have ne : ∀ {b : Addr} {u : HO}, H b = some u → b ≠ a := fun e => ne_of_none e hn
  refine ⟨I.ok, I.os, I.bare, ⟨I.base.keep, I.base.slot, fun b u q n hx => ?_, I.base.there, fun b xs q => ?_, fun b u v q => ?_, fun b ps q => ?_⟩, I.loc, I.cell, ?_, fun x c e => ?_, fun p hp => ?_, I.hok.laidN (fun _ _ e => e) hn new, I.len⟩
  · rw [upd_ne (fun z => by rw [z, h0] at q; cases q)]
    exact I.base.free b u q n hx
  · have e := I.base.tups b xs q
    rw [upd_ne (ne e)]
    exact e
  · have e := I.base.frzs b u v q
    rw [upd_ne (ne e)]
    exact e
  · obtain ⟨more, e⟩ := I.base.tbls b ps q
    exact ⟨more, by rw [upd_ne (ne e)]; exact e⟩
  · rw [upd_ne (Ne.symm nL)]
    exact I.free
  · rw [upd_ne (nC x c e)]
    exact I.freeC x c e
  · obtain ⟨p1, p2, p3⟩ := I.pin p hp
    exact ⟨p1, by rw [upd_ne (nP p hp)]; exact p2, p3⟩
end
/-- what the clause 'except x as e: c = e' wishes of the body's exception: e in the slot i, c in the slot j -/
def wKeep (K : PySem.W.Frag) (c : Value) (i j : Nat) (D : Ends) : WX := fun cls d σ H => PySem.W.exmOne K cls c = some true ∧ ∀ a, H a = none → D.nx (((σ.set i (some (.ref a))).set j (some (.ref a))).set i none) (upd H a (Kept a cls d))
section
variable {X : Cx} {x n m : Str} {c : Value} {i j : Nat} {body : List Stmt} {np p1 p2 p3 pos pos' : Pos} {tb : WX → TS}
/-- the suite: c = e, then the name e goes; the exception is followed -/
theorem suite_keep {pins : List (Addr × Obj)} {s5 : Shared} {σ : L2.St} {H : Hp} {a : Addr} {oe : Obj} {vs : Array Value} {cls : Value} {d : Option Addr} {D : Ends} {E : Value → Shared → Prop} (ok : X.Ok) (hN : X.N.Nodup) (hi : X.N[i]? = some n) (hln : X.env.kindOf n = some .local) (hj : X.N[j]? = some m) (hlm : X.env.scope.names.lookup m = some .local)
    (hdn : (n == ("__debug__" : Str)) = false) (hcn : (n == ("__classdict__" : Str)) = false) (h0 : X.s_0.heap.get? a = none) (hP : ∀ p ∈ X.pn ++ pins, p.1 ≠ a) (hz : Zc cls d oe) (hd : oe.data = .fields vs) (hs : swapsWith (.Name n p2) (some (.Name m p1)) p3.line X.env = pure false) (hlt : i < σ.length)
    (S : Inv (X.suite a ((a, oe) :: (X.pn ++ pins))) [] (σ.set i (some (.ref a))) H s5) (q : D.nx (((σ.set i (some (.ref a))).set j (some (.ref a))).set i none) (upd H a (Kept a cls d))) :
    wpAny (model X.prog X.w) (X.A.mark (some (.ref a))) (execs [.Assign [.Name m p1] (.Name n p2) p3] X.env) (fun f s6 => wpAny (model X.prog X.w) X.A (do bindName X.env n .none; unbindBehindTheSuite X.env n pos') (fun _ s7 => SP X pins D f s7) X.xe s6) E s5 := by
  have st : PSs (X.suite a ((a, oe) :: (X.pn ++ pins))) [.Assign [.Name m p1] (.Name n p2) p3] (tAsg (tVar i) (gName j)) := pss_one (ps_set (X := X.suite a ((a, oe) :: (X.pn ++ pins))) hN hj (.inl hlm) (pe_var hi (.inl hln) hdn hcn) hs (.inr hlm))
  refine wpAny_mono (st.run [] s5 _ H { nx := fun σ' H' => σ' = (σ.set i (some (.ref a))).set j (some (.ref a)) ∧ H' = H, rt := fun _ _ => False, bk := fun _ _ => False, ct := fun _ _ => False } S ⟨.ref a, by rw [List.getElem?_set_self hlt], rfl, rfl⟩) (fun f s6 r => ?_) (fun _ _ z => False.elim z)
  match f, r with
  | .next, r =>
    obtain ⟨σ6, H6, S6, rfl, rfl⟩ := r
    obtain ⟨e6, na, nL, _, _⟩ := S6.pin (a, oe) (List.mem_append_left _ List.mem_cons_self)
    have nC : ∀ y c, X.env.cells.lookup y = some c → c ≠ a := fun y c e z => by
      obtain ⟨v, o, ho, hv⟩ := S6.cell y c e
      rw [z, e6] at ho
      obtain rfl := Option.some.inj ho
      rw [hd] at hv
      cases hv
    exact gone_ok (track (o := Kept a cls d) (S6.unsuite ok) h0 na nL nC hP ⟨⟨oe, vs, e6, hz, hd⟩, ⟨oe, e6⟩, fun _ _ ⟨o, v, q, r⟩ k => ⟨o, v, k o q, r⟩⟩) hN hi hln fun s7 J7 => ⟨_, _, J7, q⟩
  | .ret u, r =>
    obtain ⟨_, _, _, _, _, z⟩ := r
    exact z.elim
  | .brk, r =>
    obtain ⟨_, _, _, z⟩ := r
    exact z.elim
  | .cont, r =>
    obtain ⟨_, _, _, z⟩ := r
    exact z.elim
/-- try: body / except x as n: m = n -/
theorem ps_try_keep (hs : X.stack = X.env :: X.outer) (hf : X.env.frame = some X.env.locals) (hex : X.ex = []) (hN : X.N.Nodup) (hi : X.N[i]? = some n) (hln : X.env.kindOf n = some .local) (hj : X.N[j]? = some m) (hlm : X.env.scope.names.lookup m = some .local) (hc : Names X x c)
    (hb : ∀ (W : WX) (pn : List (Addr × Obj)) (xe : Value → Shared → Prop), Takes (X.tr pn xe) W → PassesOwn (model X.prog X.w) X.A X.env xe → PSs (X.tr pn xe) body (tb W))
    (hdn : (n == ("__debug__" : Str)) = false := by decide) (hcn : (n == ("__classdict__" : Str)) = false := by decide) (hsw : swapsWith (.Name n p2) (some (.Name m p1)) p3.line X.env = pure false := by rfl) :
    PS X (.Try body [.ExceptHandler (some (.Name x np)) (some n) [.Assign [.Name m p1] (.Name n p2) p3] pos'] [] [] pos) (fun D σ H => tb (wKeep X.K c i j D) D σ H) := by
  refine ⟨fun pins s σ H D I h => wpAny_Try_except ?_⟩
  have ok := I.ok
  have hfr : X.A.frames = some (X.env :: X.outer) := by rw [ok.frames, hs]
  refine wpAny_mono ((hb (wKeep X.K c i j D) (X.pn ++ pins) (fun e s₁ => wpAny (model X.prog X.w) X.A (noteFrame e X.env) (fun _ s₂ => wpAny (model X.prog X.w) X.A (setFlight e none) (fun _ s₃ =>
    wpAny (model X.prog X.w) X.A (handleBy e X.env [.ExceptHandler (some (.Name x np)) (some n) [.Assign [.Name m p1] (.Name n p2) p3] pos']) (SP X pins D) X.xe s₃) X.xe s₂) X.xe s₁) (fun u s' xx => ?_) PassesOwn.looking).run [] s σ H D (I.toTry _) h) (fun f s1 hsp => ?_) fun _ _ z => z
  · obtain ⟨a, B, sI, _, σ', H', cls, d, rfl, J', nb, up, sky, na, os, ag, hm, hq⟩ := xx
    have J : Inv X pins σ' H' sI := J'.ofTry ok
    rw [show (X.tr (X.pn ++ pins) _).stack = X.env :: X.outer from hs] at sky
    refine Sky.land Zc.steady hfr hf sky fun h3 fl3 up3 => ?_
    have back : ∀ {h : Heap}, HandSPX.FlyingZ B (X.env :: X.outer) a (Zc cls d) h → sI.heap.UpToSlots h → ∃ oe vs, h.get? a = some oe ∧ Zc cls d oe ∧ oe.data = .fields vs ∧ a ∉ frs (X.env :: X.outer) ∧ Inv X pins σ' H' { s' with heap := h } := fun {h} fl u => by
      obtain ⟨oe, vs, he, hz, hd⟩ := fl.there
      refine ⟨oe, vs, he, hz, hd, fun hm => ?_, J.landed nb fl.1 u os ag⟩
      obtain ⟨_, o', e', hnf⟩ := fl.2.2.1.mem hm
      rw [he] at e'
      cases e'
      exact hnf _ hd
    obtain ⟨oe3, vs3, he3, hz3, hd3, nfr, J3⟩ := back fl3 (up.trans up3)
    have nI : sI.heap.get? a = none := by
      cases e : sI.heap.get? a with
      | none => rfl
      | some o =>
        have z := nb a o e (by rw [hs]; exact nfr)
        rw [fl3.2.1] at z
        cases z
    have n0 : X.s_0.heap.get? a = none := by
      cases e : X.s_0.heap.get? a with
      | none => rfl
      | some o =>
        obtain ⟨o', z⟩ := J.base.there a o e (by rw [hex]; exact List.not_mem_nil)
        rw [nI] at z
        cases z
    have nL : a ≠ X.env.locals := fun z => nfr (List.mem_filterMap.mpr ⟨X.env, List.mem_cons_self, by rw [hf, z]⟩)
    have nF : a ∉ X.fs := fun hm => by
      obtain ⟨e, he, q⟩ := List.mem_filterMap.mp hm
      exact nfr (List.mem_filterMap.mpr ⟨e, List.mem_cons_of_mem _ he, q⟩)
    have nP : ∀ p ∈ X.pn ++ pins, p.1 ≠ a := fun p hp z => by
      have e := (J.pin p hp).1
      rw [z, nI] at e
      cases e
    have hlt : i < σ'.length := by
      rw [J.len]
      exact (List.getElem?_eq_some_iff.mp hi).1
    refine wpAny_handleBy_cons (codeAny_handlers_test ?_) (fun q => nomatch q)
    have S3 := J3.suite he3 hd3 na nL nF
    have LT : PySem.W.Looks (model X.prog X.w) h3 (typeOf (.ref a)) cls := fun A Q E s k q => wpAny_typeOf_ref (k _ _ he3) (by rw [hz3.1]; exact q)
    have hit := PySem.W.exm_one (M := model X.prog X.w) J3.kIn LT hm
    have named : ∀ {Q : Value → Shared → Prop} {E : Value → Shared → Prop}, Q c { s' with heap := h3 } → wpAny (model X.prog X.w) (X.A.mark (some (.ref a))) (eval (.Name x np) X.env) Q E { s' with heap := h3 } := fun {Q E} q => by
      obtain ⟨hg, hdbg, hm | ⟨hm, hv, hnn⟩⟩ := hc
      · exact ld_glob (X := X.suite a ((a, oe3) :: (X.pn ++ pins))) S3 hg hm q hdbg
      · exact ld_blt (X := X.suite a ((a, oe3) :: (X.pn ++ pins))) S3 hg hm hv q hnn hdbg
    refine named (hit.here (codeAny_handlers_suite_as (HandSPX.lands_againZ fl3 fun h4 fl4 up4 => ?_)))
    obtain ⟨oe4, vs4, he4, hz4, hd4, _, J4⟩ := back fl4 ((up.trans up3).trans up4)
    refine store_ok (X := X.suite a ((a, oe4) :: (X.pn ++ pins))) (v := .ref a) (J4.suite he4 hd4 na nL nF) hN hi (.inl hln) rfl (fun s5 S5 => ?_) (.inr hln)
    exact suite_keep ok hN hi hln hj hlm hdn hcn n0 nP hz4 hd4 hsw hlt S5 (hq a na)
  · cases f with
    | next =>
      obtain ⟨σ', H', J', q⟩ := hsp
      exact wpAny_execs_nil ⟨σ', H', J'.ofTry ok, q⟩
    | brk =>
      obtain ⟨σ', H', J', q⟩ := hsp
      exact ⟨σ', H', J'.ofTry ok, q⟩
    | cont =>
      obtain ⟨σ', H', J', q⟩ := hsp
      exact ⟨σ', H', J'.ofTry ok, q⟩
    | ret u =>
      obtain ⟨v, σ', H', J', r, q⟩ := hsp
      exact ⟨v, σ', H', J'.ofTry ok, r, q⟩
end
/-! ### what is kept -/
/-- the facts for an own error's fields and classes -/
structure KeT (K : PySem.W.Frag) (C : Addr) : Prop where
  cl : (PySem.W.clsIn K C).isSome = true
  ga : PySem.W.findIn K (.ref C) "__getattribute__" = some (some (.builtin "BaseException.__getattribute__"))
  gg : PySem.W.findIn K (.ref C) "__getattr__" = some none
  exC : PySem.W.subIn K (.ref C) (.type "BaseException") = some true
  hdC : PySem.W.hasDictIn K C = true
  ca : PySem.W.findIn K (.ref C) "__class__" = some (some (.builtin "object.__class__"))
  cn : PySem.W.specialIn K (.builtin "object.__class__") "__get__" = some (some (.builtin "getset_descriptor.__get__"))
  ct : PySem.W.takesIn K (.builtin "object.__class__") = some true
  ob : PySem.W.mroIn K C (.type "object") = some true
/-- an error of the class at C with the fields fs is kept at a -/
def KeAt (H : Hp) (a C : Addr) (fs : List (Str × V)) : Prop := ∃ dd, H a = some (Kept a (.ref C) (some dd)) ∧ H dd = some (.xd fs)
theorem KeAt.inst {X : Cx} {pins : List (Addr × Obj)} {s : Shared} {σ : L2.St} {H : Hp} {a C : Addr} {fs : List (Str × V)} (I : Inv X pins σ H s) (h : KeAt H a C fs) : ∃ (ox od : Obj) (mA : Str → Option Value), PySem.W.InstAt s.heap a ox C (some od) ∧ (∀ f, PySem.W.lookIn f od = some (mA f)) ∧ ∀ f, RelO (fs.lookup f) (mA f) := by
  obtain ⟨dd, e1, e2⟩ := h
  obtain ⟨⟨oe, vs, ha, hz, hd⟩, _⟩ := I.hok a _ e1
  obtain ⟨mA, hns, hr⟩ := (show ObjOk X.prog X.w H s.heap dd (.xd fs) from I.hok dd _ e2)
  obtain ⟨od, ho, hl⟩ := lookIn_ns hns
  exact ⟨oe, od, mA, ⟨ha, hz.1, by unfold PySem.W.notCls; rw [hd] <;> rfl, by rw [hz.2]; exact ho⟩, hl, hr⟩
def tFldK (K : PySem.W.Frag) (n : Str) (te : TE) : TE := fun σ H Q => te σ H fun x H1 => ∃ a C fs v, x = .ref a ∧ KeAt H1 a C fs ∧ KeT K C ∧ PySem.W.findIn K (.ref C) n = some none ∧ fs.lookup n = some v ∧ Q v H1
theorem pe_fldK {X : Cx} {e : Expr} {te : TE} {pos : Pos} {n : Str} (he : PE X e te) (hb : attributeBase e n X.env (eval e X.env) = eval e X.env := by rfl) : PE X (.Attribute e n pos) (tFldK X.K n te) := by
  refine ⟨fun pins s σ H Q I h => attr_of hb (thn (he.run pins s σ H _ I h) ?_)⟩
  rintro u s1 ⟨x, H1, I1, rx, a, C, fs, v, rfl, hk, T, hno, l, q⟩
  cases rx
  obtain ⟨ox, od, mA, J, hl, hr⟩ := hk.inst I1
  obtain ⟨u, hu, ru⟩ := RelO.some_of (v := v) (o := mA n) (by rw [← l]; exact hr n)
  exact HandSPX.exc_get I1.kIn J T.ga T.gg T.exC (PySem.W.findObj_own T.hdC hno rfl (by rw [hl, hu])) (handed_of ru) ⟨v, H1, I1.tok _, ru, q⟩
/-- isinstance(e, c), e a kept error -/
def rIsKe (K : PySem.W.Frag) : List V → Hp → VK → Prop := fun xs H Q => ∃ (a C : Addr) (fs : List (Str × V)) (c : V) (u : Value) (b : Bool), xs = [.ref a, c] ∧ ClsV c u ∧ KeAt H a C fs ∧ KeT K C ∧ PySem.W.kitOne K (.ref C) u = some b ∧ Q (.bl b) H
theorem call_isKe {X : Cx} : CallR X (.builtin "isinstance") (rIsKe X.K) := by
  intro pins s σ H xs us Q I r h
  obtain ⟨a, C, fs, c, u, b, rfl, k, hx, T, e, q⟩ := h
  obtain ⟨u1, u2, rfl, r1, r2⟩ := vals2 r
  cases r1
  obtain rfl := k.eq r2
  obtain ⟨ox, od, _, J, _⟩ := hx.inst I
  exact PySem.W.kia_one (PySem.W.kitx_exc T.cl T.ga T.gg T.exC T.ca T.cn T.ct T.ob) I.kIn J e (fun z => nomatch z) fun tk => ⟨.bl b, H, I.kept (t' := tk) fun _ _ z => z, ⟨rfl, q⟩⟩
end KepE
namespace Sj
open PySem L2 Sup StK Own Shw Exg Grd KepE
open NdefX (NF NScope ncx envF startF nscope_by)
open C8 (pss_cut tCut)
/-! k09: is_member -/
abbrev sIsM : Stmt := top 21
theorem scIsM : FnScope ["frame", "value"] ["frame", "value"] (defScope sIsM) := ⟨rfl, rfl, rfl, by decide +kernel, rfl, by decide +kernel, by decide +kernel⟩
/-- the names of all elements -/
def membZ (d : FrD) : List Str := names d.ys ++ railsZ d.g d.r
def spIsM (K : PySem.W.Frag) (ks : Kinds) (CF : Addr) : Sp := fun vs H Q _ => ∃ a d x, vs = [.ref a, x] ∧ FrIs ks CF H a d ∧ ((∃ z : Str, x = .str z ∧ ∀ H', Same H H' → Q (.bl (decide (z ∈ membZ d))) H') ∨ (NotLeg K H x d ∧ InS K H (railsZ d.g d.r) x false ∧ ∀ H', Same H H' → Q (.bl false) H'))
structure ImT (P : Program) (w : World) (K : PySem.W.Frag) (mg : Str → Option Value) (base : Heap) (ks : Kinds) (CF : Addr) : Prop where
  in_ : MetN P w K mg base CX0 1 CF "__contains__" ["self", "x"] (spFIs K ks CF)
  rails : PropN P w K mg base 1 CF "rails" (spTup ks CF fun d => railsZ d.g d.r)
theorem inS_same {K : PySem.W.Frag} {H H' : Hp} {zs : List Str} {x : V} {b : Bool} (h : InS K H zs x b) (s : Same H H') : InS K H' zs x b := by
  cases h with
  | str z => exact .str z
  | non => exact .non
  | bl b => exact .bl b
  | int i => exact .int i
  | lst q => exact .lst (SqL.ext q s)
  | tup q => exact .tup (SqT.ext q s)
  | dic q => exact .dic (s _ _ q)
section
variable {P : Program} {w : World} {K : PySem.W.Frag} {mg : Str → Option Value} {base : Heap}
theorem ok_ism {f CF : Addr} {fd : FuncData} {ks : Kinds} (F : Fun K "is_member" "is_member" sIsM f fd) (T : ImT P w K mg base ks CF) : FnOk P w K mg base CX0 3 f fd ["frame", "value"] (spIsM K ks CF) := by
  refine F.ok scIsM (fun vs H Q E h => ?_) (fun cdv A outer s H vs Q E hr h => ?_)
  · obtain ⟨a, d, x, rfl, _⟩ := h
    rfl
  · obtain ⟨a, d, x, rfl, hF, h⟩ := h
    obtain ⟨dx, fs, ea⟩ := hF.ins
    refine ⟨_, pss_one (ps_ret (pe_or (pe_cmpR (op_inN T.in_ (hr.mono (by decide))) (pv 1) (pv 0) (by rfl)) (pe_one (pe_cmpR (op_inS hr.in1.units0) (pv 1) (pe_propS (S := fun C => C = CF) (spP := fun _ => spTup ks CF fun d => railsZ d.g d.r) (pv 0) (fun C e => by rw [e]; exact T.rails) hr) (by rfl))))), ?_⟩
    rcases h with ⟨z, rfl, k⟩ | ⟨hn, hi, k⟩
    · by_cases hz : z ∈ names d.ys
      · refine ⟨_, rfl, _, rfl, a, dx, fs, rfl, ea, a, d, _, rfl, hF, .inl ⟨z, rfl, hz, true, rfl, _, rfl, iteT ?_⟩⟩
        have := k H (Same.refl H)
        rw [decide_eq_true (show z ∈ membZ d from List.mem_append_left _ hz)] at this
        exact this
      · refine ⟨_, rfl, _, rfl, a, dx, fs, rfl, ea, a, d, _, rfl, hF, .inr ⟨.inl ⟨z, rfl, hz⟩, false, rfl, _, rfl, iteF ?_⟩⟩
        refine ⟨_, rfl, _, rfl, a, CF, dx, fs, rfl, ea, rfl, a, d, rfl, hF, fun p H1 hp hv s1 => ⟨p, railsZ d.g d.r, _, rfl, SqT.of hv, .str z, ?_⟩⟩
        have := k H1 s1
        have e : decide (z ∈ membZ d) = decide (z ∈ railsZ d.g d.r) := by
          refine decide_eq_decide.mpr ⟨fun m => (List.mem_append.mp m).resolve_left hz, fun m => List.mem_append_right _ m⟩
        rw [e] at this
        exact this
    · refine ⟨_, rfl, _, rfl, a, dx, fs, rfl, ea, a, d, _, rfl, hF, .inr ⟨hn, false, rfl, _, rfl, iteF ?_⟩⟩
      exact ⟨_, rfl, _, rfl, a, CF, dx, fs, rfl, ea, rfl, a, d, rfl, hF, fun p H1 hp hv s1 => ⟨p, railsZ d.g d.r, _, rfl, SqT.of hv, inS_same hi s1, k H1 s1⟩⟩
end
end Sj
namespace Sj
open PySem PySem.Spec PyProof.Rows L2 Sup
/-! k09: over a list or a tuple; [.. for x in xs for y in x] -/
section
variable {X : Cx} {tg : Expr}
def iSeq (K : PySem.W.Frag) (tl : TE) : TI := fun σ H R => tl σ H fun x H1 => ∃ a, x = .ref a ∧ (((∃ xs, SqL K H1 a xs) ∧ R (Itl K a) H1) ∨ ((∃ xs, SqT K H1 a xs) ∧ R (Itt K a) H1))
theorem pi_seq {l : Expr} {tl : TE} (hl : PE X l tl) : PI X tg l (iSeq X.K tl) := by
  refine ⟨fun pins s σ H R I h => thn (hl.run pins s σ H _ I h) fun v s1 ⟨x, H1, I1, r1, a, e, q⟩ => ?_⟩
  subst e
  cases r1
  have new : ∀ {c : Addr}, c ∈ [s1.heap.objs.size] → FpOk X pins H1 c ∧ True := fun {c} hc => ⟨by rw [List.mem_singleton.mp hc]; exact I1.fpOk (Nat.le_refl _) (I1.hok.fresh (Nat.le_refl _)), trivial⟩
  rcases q with ⟨⟨xs, hq⟩, q⟩ | ⟨⟨xs, hq⟩, q⟩
  · obtain ⟨its, rv, p, hz⟩ := I1.list hq
    exact wpAny_pyIter_list p.isList ⟨s1.heap.objs.size, [s1.heap.objs.size], _, _, H1, rfl, I1.kept (t' := s1.toks) fun b o e => Heap.get?_push_of_some _ e, turn_list a _, ⟨_, Heap.get?_push_size _ rfl, rfl, rfl⟩, fun b hb => (new hb).1, q⟩
  · obtain ⟨its, rv, p, hz⟩ := I1.tuple hq
    exact wpAny_pyIter_tuple (show s1.heap.IsTuple a its.toArray from p) ⟨s1.heap.objs.size, [s1.heap.objs.size], _, _, H1, rfl, I1.kept (t' := s1.toks) fun b o e => Heap.get?_push_of_some _ e, turn_tuple a _, ⟨_, Heap.get?_push_size _ rfl, rfl, rfl⟩, fun b hb => (new hb).1, q⟩
end
/-- the inner loop -/
def InLoop (J1 : It) (g1 : TG) (tt1 : TT) (te : TE) (vs1 : List Nat) (D : Addr) (σ2 : L2.St) (H4 : Hp) (Nx : Hp → Prop) : Prop := ∃ W1 : Nat → Nat → Hp → Prop, (∃ m, W1 0 m H4) ∧ ∀ j k H, W1 j k H →
  (J1.stop j H ∧ Nx H) ∨ (J1.go j H ∧ ∃ Nx1 : Hp → Prop, (∀ H', Nx1 H' → ∃ k', k' < k ∧ W1 (j + 1) k' H') ∧ ∀ x H', J1.yld j H x H' → g1 x (wipe σ2 vs1) H' fun σ3 H5 => wipe σ3 vs1 = wipe σ2 vs1 ∧ tt1 σ3 H5 fun b H6 =>
    if b = true then te σ3 H6 fun y H7 => ∃ acc, H7 D = some (.lst acc) ∧ acc.length < sizeLine ∧ Nx1 (upd H7 D (.lst (acc ++ [y]))) else Nx1 H6)
theorem in_it {J1 : It} {n : Nat} {G : Hp → Prop} {Y : Nat → Hp → V → Hp → Prop} (wk : Walk J1 n G Y) {g1 : TG} {tt1 : TT} {te : TE} {vs1 : List Nat} {D : Addr} {σ2 : L2.St} {H4 : Hp} {Nx : Hp → Prop} (Pv : Nat → Hp → Prop) (h0 : Pv 0 H4) (hG : ∀ i H, i ≤ n → Pv i H → G H)
    (hs : ∀ j x H H', j < n → Pv j H → Y j H x H' → g1 x (wipe σ2 vs1) H' fun σ3 H5 => wipe σ3 vs1 = wipe σ2 vs1 ∧ tt1 σ3 H5 fun b H6 => if b = true then te σ3 H6 fun y H7 => ∃ acc, H7 D = some (.lst acc) ∧ acc.length < sizeLine ∧ Pv (j + 1) (upd H7 D (.lst (acc ++ [y]))) else Pv (j + 1) H6)
    (hd : ∀ H, Pv n H → Nx H) : InLoop J1 g1 tt1 te vs1 D σ2 H4 Nx := by
  refine ⟨fun j k H => k + j = n ∧ Pv j H, ⟨n, rfl, h0⟩, fun j k H ⟨e, q⟩ => ?_⟩
  match k, e with
  | 0, e =>
    obtain rfl : j = n := by omega
    exact .inl ⟨wk.stops H (hG _ _ (Nat.le_refl _) q), hd H q⟩
  | k + 1, e => exact .inr ⟨wk.goes j H (by omega) (hG _ _ (by omega) q), Pv (j + 1), fun H' p' => ⟨k, Nat.lt_succ_self k, by omega, p'⟩, fun x H' y => hs j x H H' (by omega) q (wk.yields j H x H' (by omega) (hG _ _ (by omega) q) y)⟩
theorem lc2_it {J : It} {n : Nat} {G : Hp → Prop} {Y : Nat → Hp → V → Hp → Prop} (wk : Walk J n G Y) {g g1 : TG} {tt tt1 : TT} {wi1 : TI} {te : TE} {vs vs1 : List Nat} {σ : L2.St} {H1 : Hp} {D : Addr} {Qd : Hp → Prop} (Pv : Nat → Hp → Prop) (h0 : Pv 0 (upd H1 D (.lst []))) (hG : ∀ i H, i ≤ n → Pv i H → G H)
    (hs : ∀ i x H H', i < n → Pv i H → Y i H x H' → g x (wipe σ vs) H' fun σ2 H2 => wipe σ2 vs = wipe σ vs ∧ tt σ2 H2 fun b H3 => if b = true then wi1 σ2 H3 fun J1 H4 => InLoop J1 g1 tt1 te vs1 D σ2 H4 (Pv (i + 1)) else Pv (i + 1) H3) (hd : ∀ H, Pv n H → Qd H) :
    ∃ W : Nat → Nat → Hp → Prop, (∃ m, W 0 m (upd H1 D (.lst []))) ∧ ∀ i m H, W i m H →
      (J.stop i H ∧ Qd H) ∨ (J.go i H ∧ ∃ Nx : Hp → Prop, (∀ H', Nx H' → ∃ m', m' < m ∧ W (i + 1) m' H') ∧ ∀ x H', J.yld i H x H' → g x (wipe σ vs) H' fun σ2 H2 => wipe σ2 vs = wipe σ vs ∧ tt σ2 H2 fun b H3 =>
        if b = true then wi1 σ2 H3 fun J1 H4 => InLoop J1 g1 tt1 te vs1 D σ2 H4 Nx else Nx H3) := by
  refine ⟨fun i m H => m + i = n ∧ Pv i H, ⟨n, rfl, h0⟩, fun i m H ⟨e, q⟩ => ?_⟩
  match m, e with
  | 0, e =>
    obtain rfl : i = n := by omega
    exact .inl ⟨wk.stops H (hG _ _ (Nat.le_refl _) q), hd H q⟩
  | m + 1, e => exact .inr ⟨wk.goes i H (by omega) (hG _ _ (by omega) q), Pv (i + 1), fun H' p' => ⟨m, Nat.lt_succ_self m, by omega, p'⟩, fun x H' y => hs i x H H' (by omega) q (wk.yields i H x H' (by omega) (hG _ _ (by omega) q) y)⟩
end Sj
namespace Sj
open PySem L2 Sup StK Own Shw Exg Grd KepE
open NdefX (NF NScope ncx envF startF nscope_by)
open C8 (pss_cut tCut)
/-! wrong_blocks, where all is well -/
abbrev sWb : Stmt := top 24
abbrev nWb : List Str := ["frame", "blocks", "names", "block", "name"]
theorem scWb : FnScope nWb ["frame", "blocks"] (defScope sWb) := ⟨rfl, rfl, rfl, by decide +kernel, rfl, by decide +kernel, by decide +kernel⟩
def lenR (K : PySem.W.Frag) : List V → Hp → VK → Prop := fun xs H Q => ∃ p ys, xs = [V.ref p] ∧ (SqL K H p ys ∨ SqT K H p ys) ∧ Q (.int ys.length) H
theorem call_lenK {X : Cx} : CallR X (.builtin "len") (lenR X.K) := call_len_seq
def rGt0 : R2 := rI0 fun i j => .bl (decide (j < i))
theorem op_gt0 {X : Cx} : OpR X (compareOp .Gt) rGt0 := op_gt
def teB1 (K : PySem.W.Frag) : TE := tAndV (tCB (rIsiT K) (tCons (tVar 3) (tCons (tTup (tCons (tC (.ty "list")) (tCons (tC (.ty "tuple")) tNil))) tNil))) (tOp rGt0 (tCB (lenR K) (tCons (tVar 3) tNil)) (tC (.int 0)))
def teB3 (K : PySem.W.Frag) (ks : Kinds) (CF : Addr) : TE := tCall (spIsM K ks CF) [] E0 (tCons (tVar 0) (tCons (tVar 4) tNil))
def teB5 (K : PySem.W.Frag) : TE := tAndV (tOp (rIn K false) (tC (.str "ground")) (tVar 3)) (tOp (rIn K false) (tC (.str "power")) (tVar 3))
/-- blocks of texts, each a list or a tuple -/
def BlkAt (H : Hp) (Bl : List (Addr × List Str)) : Prop := ∀ x ∈ Bl, (H x.1 = some (.lst (strv x.2)) ∨ H x.1 = some (.tup (strv x.2))) ∧ x.2 ≠ []
theorem BlkAt.same {H H' : Hp} {Bl : List (Addr × List Str)} (h : BlkAt H Bl) (s : Same H H') : BlkAt H' Bl := fun x hx => ⟨(h x hx).1.imp (s _ _) (s _ _), (h x hx).2⟩
def allN (Bl : List (Addr × List Str)) : List Str := Bl.flatMap (·.2)
structure WbT (P : Program) (w : World) (K : PySem.W.Frag) (mg : Str → Option Value) (base : Heap) (ks : Kinds) (CF : Addr) : Prop where
  ism : ∃ f fd, mg "is_member" = some (.ref f) ∧ PySem.W.keepIn K (.ref f) = true ∧ Binds K fd ["frame", "value"] [] ∧ FnOk P w K mg base CX0 3 f fd ["frame", "value"] (spIsM K ks CF)
  isi : mg "isinstance" = none
  all : mg "all" = none
  any : mg "any" = none
  len : mg "len" = none
  set : mg "set" = none
  list : mg "list" = none
  tuple : mg "tuple" = none
  kl : PySem.W.kitAny K (.type "list") [.type "list", .type "tuple"] = some true
  kt : PySem.W.kitAny K (.type "tuple") [.type "list", .type "tuple"] = some true
def spWb (K : PySem.W.Frag) (ks : Kinds) (CF : Addr) : Sp := fun vs H Q _ => ∃ (f t : Addr) (d : FrD) (Bl : List (Addr × List Str)), vs = [.ref f, .ref t] ∧ FrIs ks CF H f d ∧ SqT K H t (Bl.map fun x => V.ref x.1) ∧ BlkAt H Bl ∧
  (∀ z ∈ allN Bl, z ∈ membZ d) ∧ (allN Bl).Nodup ∧ (allN Bl).length ≤ 60 ∧ (∀ x ∈ Bl, ¬ (("ground" : Str) ∈ x.2 ∧ ("power" : Str) ∈ x.2)) ∧ ∀ H', Same H H' → Q .non H'
theorem inV_strs : ∀ (zs : List Str) (z : Str), inV (.str z) (strv zs) = decide (z ∈ zs)
  | [], z => by simp [inV, strv]
  | y :: zs, z => by
    have ih := inV_strs zs z
    show (eqV (V.str y) (V.str z) || inV (.str z) (strv zs)) = _
    rw [ih]
    by_cases e : z = y
    · subst e
      simp [eqV]
    · have e' : y ≠ z := fun q => e q.symm
      simp [eqV, e, e']
theorem flat_strs (zs : List Str) : (strv zs).all flatV = true := by
  unfold strv
  rw [List.all_map]
  exact List.all_eq_true.mpr fun z _ => rfl
theorem allN_snoc {Bl : List (Addr × List Str)} {i : Nat} {y : Addr × List Str} (h : Bl[i]? = some y) : allN (Bl.take (i + 1)) = allN (Bl.take i) ++ y.2 := by
  unfold allN
  rw [List.take_add_one, h, Option.toList_some, List.flatMap_append]
  simp
section
variable {P : Program} {w : World} {K : PySem.W.Frag} {mg : Str → Option Value} {base : Heap}
theorem ok_wb {f CF : Addr} {fd : FuncData} {ks : Kinds} (F : Fun K "wrong_blocks" "wrong_blocks" sWb f fd) (T : WbT P w K mg base ks CF) : FnOk P w K mg base CX0 4 f fd ["frame", "blocks"] (spWb K ks CF) := by
  obtain ⟨fM, fdM, mM, kM, bM, GM⟩ := T.ism
  refine F.ok scWb (fun vs H Q E h => ?_) (fun cdv A outer s H vs Q E hr h => ?_)
  · obtain ⟨f, t, d, Bl, rfl, _⟩ := h
    rfl
  · obtain ⟨f, t, d, Bl, rfl, hF, ht, hB, hm, hnd, hl, hgp, k⟩ := h
    refine ⟨_, pss_cons (ps_if (pt_not (pt_val (pe_callB (cr_all rfl) (by rfl) T.all (by decide +kernel) (pa_cons (pe_lc (te := teB1 K) (tt := tYes) (own := [("block", 3)]) (g := gName 3) rfl scWb.nd (pi_tup (pv 1)) (blkOk_by (N := nWb) (sc := defScope sWb) (by decide +kernel))
          (fun _ _ _ _ _ => pg_name (i := 3) scWb.nd rfl (Or.inl rfl)) (fun _ _ _ _ _ => pts_nil) (fun _ _ _ _ _ => pe_and (pe_callB call_isiT (by rfl) T.isi (by decide +kernel) (pa_cons (pv 3) (pa_cons (pe_tup (pa_cons (pe_bltn (by rfl) T.list (by decide +kernel) (v := .ty "list") rfl) (pa_cons (pe_bltn (by rfl) T.tuple (by decide +kernel) (v := .ty "tuple") rfl) pa_nil))) pa_nil)))
            (pe_one (pe_cmpR op_gt0 (pe_callB call_lenK (by rfl) T.len PySem.boot_len (pa_cons (pv 3) pa_nil)) pe_int (nomark _))))) pa_nil)))) (pss_one (ps_ret pe_str)) pss_nil)
      (pss_cons (ps_setLc2 (i := 2) (wi1 := iSeq K (tVar 3)) (te := tVar 4) (tt := tYes) (tt1 := tYes) (own := [("block", 3), ("name", 4)]) (vs1 := [4]) (g := gName 3) (g1 := gName 4) rfl scWb.nd rfl rfl (sw_true rfl rfl rfl (by decide +kernel)) (pi_tup (pv 1)) (blkOk_by (N := nWb) (sc := defScope sWb) (by decide +kernel)) (by decide)
          (fun _ _ _ _ _ => pg_name (i := 3) scWb.nd rfl (Or.inl rfl)) (fun _ _ _ _ _ => pts_nil) (fun _ _ _ _ _ => pi_seq (pv 3)) (fun _ _ _ _ _ => pg_name (i := 4) scWb.nd rfl (Or.inl rfl)) (fun _ _ _ _ _ => pts_nil) (fun _ _ _ _ _ => pv 4))
      (pss_cons (ps_if (pt_not (pt_val (pe_callB (cr_all rfl) (by rfl) T.all (by decide +kernel) (pa_cons (pe_lc (te := teB3 K ks CF) (tt := tYes) (own := [("name", 4)]) (g := gName 4) rfl scWb.nd (pi_list (pv 2)) (blkOk_by (N := nWb) (sc := defScope sWb) (by decide +kernel))
          (fun _ _ _ _ _ => pg_name (i := 4) scWb.nd rfl (Or.inl rfl)) (fun _ _ _ _ _ => pts_nil) (fun _ _ _ _ _ => pe_call GM hr rfl mM kM bM .nil pass0 (pa_cons (pv 0) (pa_cons (pv 4) pa_nil)))) pa_nil)))) (pss_one (ps_ret pe_str)) pss_nil)
      (pss_cons (ps_if (pt_cmpR op_lt (pe_callB (SetS.call_lenX) (by rfl) T.len PySem.boot_len (pa_cons (pe_callTy (T := "set") (SetS.call_setL rfl) (by rfl) T.set (by decide +kernel) (pa_cons (pv 2) pa_nil)) pa_nil)) (pe_callB call_len_seq (by rfl) T.len PySem.boot_len (pa_cons (pv 2) pa_nil)) (nomark _)) (pss_one (ps_ret pe_str)) pss_nil)
      (pss_cons (ps_if (pt_val (pe_callB (cr_any rfl) (by rfl) T.any (by decide +kernel) (pa_cons (pe_lc (te := teB5 K) (tt := tYes) (own := [("block", 3)]) (g := gName 3) rfl scWb.nd (pi_tup (pv 1)) (blkOk_by (N := nWb) (sc := defScope sWb) (by decide +kernel))
          (fun _ _ _ _ _ => pg_name (i := 3) scWb.nd rfl (Or.inl rfl)) (fun _ _ _ _ _ => pts_nil) (fun _ _ _ _ _ => pe_and (pe_cmpR op_in_seq pe_str (pv 3) (by rfl)) (pe_one (pe_cmpR op_in_seq pe_str (pv 3) (by rfl))))) pa_nil))) (pss_one (ps_ret pe_str)) pss_nil)
      (pss_one (ps_ret pe_non)))))), ?_⟩
    have hBl : (Bl.map fun x => V.ref x.1).length = Bl.length := List.length_map _
    have at_ : ∀ {i : Nat} {x : V}, (Bl.map fun x => V.ref x.1)[i]? = some x → ∃ y ∈ Bl, Bl[i]? = some y ∧ x = .ref y.1 := fun {i x} h => by
      rw [List.getElem?_map] at h
      cases e : Bl[i]? with
      | none => rw [e] at h; cases h
      | some y => rw [e] at h; exact ⟨y, List.mem_of_getElem? e, rfl, (Option.some.inj h).symm⟩
    have bl60 : Bl.length ≤ 60 := by
      have go : ∀ Bl : List (Addr × List Str), (∀ x ∈ Bl, x.2 ≠ []) → Bl.length ≤ (allN Bl).length := by
        intro Bl
        induction Bl with
        | nil => exact fun _ => Nat.le_refl _
        | cons x Bl ih =>
          intro h
          have h1 := ih fun y hy => h y (List.mem_cons_of_mem _ hy)
          have h2 : 0 < x.2.length := List.length_pos_iff.mpr (h x List.mem_cons_self)
          show Bl.length + 1 ≤ (x.2 ++ allN Bl).length
          rw [List.length_append]
          omega
      exact Nat.le_trans (go Bl fun x hx => (hB x hx).2) hl
    have bool_add : ∀ (n : Nat) (b : Bool), (List.replicate (n + 1) b).map V.bl = (List.replicate n b).map V.bl ++ [.bl b] := fun n b => by
      rw [List.replicate_succ', List.map_append]
      rfl
    -- each is a list or a tuple, and not empty
    refine ⟨_, rfl, t, rfl, ⟨_, ht⟩, fun D hD => ?_⟩
    refine lc_it (walk_tup (K := K) (a := t) (xs := Bl.map fun x => V.ref x.1)) (fun i H' => Same H H' ∧ H' D = some (.lst ((List.replicate i true).map V.bl))) ⟨same_at hD, upd_same⟩ (fun i H' _ p => SqT.ext ht p.1) ?_ ?_
    · rintro i x Ho Ha hi ⟨sa, da⟩ ⟨rfl, hx⟩
      obtain ⟨y, hy, ey, rfl⟩ := at_ hx
      rw [hBl] at hi
      refine ⟨rfl, ?_⟩
      unfold tYes
      dsimp only
      rw [if_pos rfl]
      refine ⟨_, rfl, by show 2 ≤ sizeLine; decide, fun p hp => ?_⟩
      have sp := same_at (o := .tup [V.ty "list", .ty "tuple"]) hp
      obtain ⟨hq, hne⟩ := (hB.same (sa.trans sp)) y hy
      have hln : SqL K (upd Ha p (.tup [V.ty "list", .ty "tuple"])) y.1 (strv y.2) ∨ SqT K (upd Ha p (.tup [V.ty "list", .ty "tuple"])) y.1 (strv y.2) := hq.imp SqL.of SqT.of
      have hty : ∃ tt, TyX K (upd Ha p (.tup [V.ty "list", .ty "tuple"])) (.ref y.1) (.type tt) ∧ PySem.W.kitAny K (.type tt) [.type "list", .type "tuple"] = some true := by
        rcases hq with q | q
        · exact ⟨"list", .base (.lst q), T.kl⟩
        · exact ⟨"tuple", .base (.tup q), T.kt⟩
      obtain ⟨tt, ty, kt⟩ := hty
      refine ⟨.ref y.1, p, [.ty "list", .ty "tuple"], .type tt, [.type "list", .type "tuple"], true, rfl, upd_same, .cons (.ty _) (.cons (.ty _) .nil), ty, kt, _, rfl, iteT ?_⟩
      refine ⟨_, rfl, y.1, strv y.2, rfl, hln, _, _, rfl, rfl, ?_⟩
      have hpos : (0 : Int) < ((strv y.2).length : Int) := by
        have : 0 < y.2.length := List.length_pos_iff.mpr hne
        have e : (strv y.2).length = y.2.length := List.length_map _
        omega
      refine ⟨_, sp _ _ da, ?_, fun c o e => ?_, ?_⟩
      · rw [List.length_map, List.length_replicate]
        exact Nat.lt_of_lt_of_le (show i < 60 by omega) (by decide)
      · rw [upd_ne (ne_of_none e hD)]
        exact sp _ _ (sa _ _ e)
      · rw [upd_same, bool_add]
        show some (HO.lst (_ ++ [V.bl (decide ((0 : Int) < ((strv y.2).length : Int)))])) = _
        rw [decide_eq_true hpos]
    rintro H1 ⟨s1, d1⟩
    refine ⟨D, _, rfl, SqL.of d1, ?_⟩
    have allT : ∀ n : Nat, (List.replicate n true).all id = true := fun n => List.all_eq_true.mpr fun b hb => List.eq_of_mem_replicate hb
    rw [allT]
    refine ⟨_, rfl, iteF ?_⟩
    -- all names
    have ht1 := SqT.ext ht s1
    refine ⟨_, rfl, t, rfl, ⟨_, ht1⟩, fun D2 hD2 => ?_⟩
    refine lc2_it (walk_tup (K := K) (a := t) (xs := Bl.map fun x => V.ref x.1)) (fun i H' => Same H1 H' ∧ H' D2 = some (.lst (strv (allN (Bl.take i))))) ⟨same_at hD2, upd_same⟩ (fun i H' _ p => SqT.ext ht1 p.1) ?_ ?_
    · rintro i x Ho Ha hi ⟨sa, da⟩ ⟨rfl, hx⟩
      obtain ⟨y, hy, ey, rfl⟩ := at_ hx
      refine ⟨rfl, ?_⟩
      unfold tYes
      dsimp only
      rw [if_pos rfl]
      have hle : (allN (Bl.take i) ++ y.2).length ≤ 60 := by
        rw [← allN_snoc ey]
        refine Nat.le_trans ?_ hl
        have e : allN Bl = allN (Bl.take (i + 1)) ++ allN (Bl.drop (i + 1)) := by
          unfold allN
          rw [← List.flatMap_append, List.take_append_drop]
        rw [e, List.length_append]
        omega
      rw [List.length_append] at hle
      have hyl : (strv y.2).length = y.2.length := List.length_map _
      have turn : ∀ (j : Nat) (x : V) (Hc Hd : Hp), j < (strv y.2).length → (Same H1 Hc ∧ Hc D2 = some (.lst (strv (allN (Bl.take i) ++ y.2.take j)))) → (Hd = Hc ∧ (strv y.2)[j]? = some x) →
          gName 4 x (wipe ([some (V.ref f), some (.ref t), none, some (.ref y.1), none] : L2.St) [4]) Hd fun σ3 H5 => wipe σ3 [4] = wipe ([some (V.ref f), some (.ref t), none, some (.ref y.1), none] : L2.St) [4] ∧ tYes σ3 H5 fun b H6 =>
            if b = true then tVar 4 σ3 H6 fun z H7 => ∃ acc, H7 D2 = some (.lst acc) ∧ acc.length < sizeLine ∧ (Same H1 (upd H7 D2 (.lst (acc ++ [z]))) ∧ upd H7 D2 (.lst (acc ++ [z])) D2 = some (.lst (strv (allN (Bl.take i) ++ y.2.take (j + 1))))) else (Same H1 H6 ∧ H6 D2 = some (.lst (strv (allN (Bl.take i) ++ y.2.take (j + 1))))) := by
        rintro j x Hc Hd hj ⟨sc, dc⟩ ⟨rfl, hxj⟩
        rw [hyl] at hj
        have exj : (strv y.2)[j]? = some (.str y.2[j]) := by show (y.2.map V.str)[j]? = _; rw [List.getElem?_map, List.getElem?_eq_getElem hj]; rfl
        rw [exj] at hxj
        obtain rfl := Option.some.inj hxj
        refine ⟨rfl, ?_⟩
        unfold tYes
        dsimp only
        rw [if_pos rfl]
        refine ⟨_, rfl, _, dc, ?_, fun c o e => ?_, ?_⟩
        · unfold strv
          rw [List.length_map, List.length_append, List.length_take]
          exact Nat.lt_of_le_of_lt (show _ ≤ 60 by omega) (by decide)
        · rw [upd_ne (ne_of_none e hD2)]
          exact sc _ _ e
        · rw [upd_same, List.take_add_one, List.getElem?_eq_getElem hj, Option.toList_some, ← List.append_assoc]
          show _ = some (HO.lst (List.map V.str _))
          rw [List.map_append (l₁ := allN (Bl.take i) ++ y.2.take j)]
          rfl
      have d0 : Ha D2 = some (.lst (strv (allN (Bl.take i) ++ y.2.take 0))) := by
        rw [List.take_zero, List.append_nil]
        exact da
      have fin : ∀ Hc, (Same H1 Hc ∧ Hc D2 = some (.lst (strv (allN (Bl.take i) ++ y.2.take (strv y.2).length)))) → (Same H1 Hc ∧ Hc D2 = some (.lst (strv (allN (Bl.take (i + 1)))))) := fun Hc h => ⟨h.1, by
        have := h.2
        rw [hyl, List.take_length, ← allN_snoc ey] at this
        exact this⟩
      rcases (hB.same s1 y hy).1 with q | q
      · exact ⟨_, rfl, y.1, rfl, .inl ⟨⟨_, SqL.of (sa _ _ q)⟩, in_it (walk_list (K := K) (a := y.1) (xs := strv y.2)) (fun j H' => Same H1 H' ∧ H' D2 = some (.lst (strv (allN (Bl.take i) ++ y.2.take j)))) ⟨sa, d0⟩ (fun j H' _ p => SqL.of (p.1 _ _ q)) turn fin⟩⟩
      · exact ⟨_, rfl, y.1, rfl, .inr ⟨⟨_, SqT.of (sa _ _ q)⟩, in_it (walk_tup (K := K) (a := y.1) (xs := strv y.2)) (fun j H' => Same H1 H' ∧ H' D2 = some (.lst (strv (allN (Bl.take i) ++ y.2.take j)))) ⟨sa, d0⟩ (fun j H' _ p => SqT.of (p.1 _ _ q)) turn fin⟩⟩
    rintro H2 ⟨s2, d2⟩
    rw [hBl, List.take_length] at d2
    have hF2 := hF.same (s1.trans s2)
    have hB2 := (hB.same s1).same s2
    have ht2 := SqT.ext ht1 s2
    have nl : (strv (allN Bl)).length = (allN Bl).length := List.length_map _
    refine ⟨_, rfl, D2, rfl, ⟨_, SqL.of d2⟩, fun D3 hD3 => ?_⟩
    refine lc_it (walk_list (K := K) (a := D2) (xs := strv (allN Bl))) (fun i H' => Same H2 H' ∧ H' D3 = some (.lst ((List.replicate i true).map V.bl))) ⟨same_at hD3, upd_same⟩ (fun i H' _ p => SqL.ext (SqL.of d2) p.1) ?_ ?_
    · rintro i x Ho Ha hi ⟨sa, da⟩ ⟨rfl, hx⟩
      rw [nl] at hi
      have ex : (strv (allN Bl))[i]? = some (.str (allN Bl)[i]) := by show ((allN Bl).map V.str)[i]? = _; rw [List.getElem?_map, List.getElem?_eq_getElem hi]; rfl
      rw [ex] at hx
      obtain rfl := Option.some.inj hx
      refine ⟨rfl, ?_⟩
      unfold tYes
      dsimp only
      rw [if_pos rfl]
      refine ⟨_, rfl, _, rfl, f, d, _, rfl, hF2.same sa, .inl ⟨_, rfl, fun H' s' => ?_⟩⟩
      rw [decide_eq_true (hm _ (List.getElem_mem hi))]
      refine ⟨_, s' _ _ da, ?_, fun c o e => ?_, ?_⟩
      · rw [List.length_map, List.length_replicate]
        exact Nat.lt_of_lt_of_le (show i < 60 by omega) (by decide)
      · rw [upd_ne (ne_of_none e hD3)]
        exact s' _ _ (sa _ _ e)
      · rw [upd_same, bool_add]
    rintro H3 ⟨s3, d3⟩
    refine ⟨D3, _, rfl, SqL.of d3, ?_⟩
    rw [allT]
    refine ⟨_, rfl, iteF ?_⟩
    -- no name twice
    have d2b := s3 _ _ d2
    refine ⟨_, rfl, D2, allN Bl, rfl, SqL.of d2b, Nat.lt_of_le_of_lt hl (by decide), fun p hp => ?_⟩
    have sp := same_at (o := SetS.SetX w p (SetS.setL (allN Bl))) hp
    refine ⟨p, SetS.setL (allN Bl), rfl, upd_same, _, rfl, D2, strv (allN Bl), rfl, .inl (SqL.of (sp _ _ d2b)), ?_⟩
    refine ⟨_, _, rfl, rfl, ?_⟩
    have e4 : decide (((SetS.setL (allN Bl)).length : Int) < ((strv (allN Bl)).length : Int)) = false := by
      rw [SetS.setL_same hnd, nl]
      exact decide_eq_false (Int.lt_irrefl _)
    refine ⟨false, by show V.bl (decide (((SetS.setL (allN Bl)).length : Int) < ((strv (allN Bl)).length : Int))) = _; rw [e4], iteF ?_⟩
    -- no block of both
    have s4 := s3.trans sp
    have ht4 := SqT.ext ht2 s4
    refine ⟨_, rfl, t, rfl, ⟨_, ht4⟩, fun D5 hD5 => ?_⟩
    refine lc_it (walk_tup (K := K) (a := t) (xs := Bl.map fun x => V.ref x.1)) (fun i H' => Same (upd H3 p (SetS.SetX w p (SetS.setL (allN Bl)))) H' ∧ H' D5 = some (.lst ((List.replicate i false).map V.bl))) ⟨same_at hD5, upd_same⟩ (fun i H' _ p => SqT.ext ht4 p.1) ?_ ?_
    · rintro i x Ho Ha hi ⟨sa, da⟩ ⟨rfl, hx⟩
      obtain ⟨y, hy, ey, rfl⟩ := at_ hx
      rw [hBl] at hi
      refine ⟨rfl, ?_⟩
      unfold tYes
      dsimp only
      rw [if_pos rfl]
      have last : ∀ {b : Bool}, b = false → ∃ acc, Ha D5 = some (.lst acc) ∧ acc.length < sizeLine ∧ (Same (upd H3 p (SetS.SetX w p (SetS.setL (allN Bl)))) (upd Ha D5 (.lst (acc ++ [.bl b]))) ∧ upd Ha D5 (.lst (acc ++ [.bl b])) D5 = some (.lst ((List.replicate (i + 1) false).map V.bl))) := by
        rintro b rfl
        refine ⟨_, da, ?_, fun c o e => ?_, ?_⟩
        · rw [List.length_map, List.length_replicate]
          exact Nat.lt_of_lt_of_le (show i < 60 by omega) (by decide)
        · rw [upd_ne (ne_of_none e hD5)]
          exact sa _ _ e
        · rw [upd_same, bool_add]
      have hq := ((hB2.same s4).same sa y hy).1
      have hgy := hgp y hy
      have both : ∀ z : Str, inV (.str z) (strv y.2) = decide (z ∈ y.2) := inV_strs y.2
      have hsq : SqL K Ha y.1 (strv y.2) ∨ SqT K Ha y.1 (strv y.2) := hq.imp SqL.of SqT.of
      by_cases hg : ("ground" : Str) ∈ y.2
      · refine ⟨_, rfl, y.1, strv y.2, rfl, hsq, rfl, flat_strs _, true, ?_, iteT ⟨_, rfl, y.1, strv y.2, rfl, hsq, rfl, flat_strs _, last ?_⟩⟩
        · show V.bl (inV _ _) = _
          rw [both, decide_eq_true hg]
        · show inV _ _ = _
          rw [both]
          exact decide_eq_false fun q => hgy ⟨hg, q⟩
      · refine ⟨_, rfl, y.1, strv y.2, rfl, hsq, rfl, flat_strs _, false, ?_, iteF (last rfl)⟩
        show V.bl (inV _ _) = _
        rw [both, decide_eq_false hg]
    rintro H5 ⟨s5, d5⟩
    refine ⟨D5, _, rfl, SqL.of d5, ?_⟩
    have anyF : ∀ n : Nat, (List.replicate n false).any id = false := fun n => List.any_eq_false.mpr fun b hb => by rw [List.eq_of_mem_replicate hb]; exact Bool.false_ne_true
    rw [anyF]
    refine ⟨_, rfl, iteF ?_⟩
    exact k _ ((((s1.trans s2).trans s4)).trans s5)
end
end Sj
namespace Sj
open PySem L2 Sup StK Own Shw Exg Grd KepE
open NdefX (NF NScope ncx envF startF nscope_by)
open C8 (pss_cut tCut)
/-! k09: _law_parted -/
abbrev sPar : Stmt := top 37
abbrev nPar : List Str := ["_law_pen_here", "_law_bare_here", "_law_blocks_so", "_law_tag", "_law_at", "_law_joint"]
theorem scPar : FnScope nPar ["_law_pen_here", "_law_bare_here"] (defScope sPar) := ⟨rfl, rfl, rfl, by decide +kernel, rfl, by decide +kernel, by decide +kernel⟩
def memB (d : BareD) : List Str := d.ds ++ d.ls ++ railsZ d.g d.r
def refsL (Bl : List (Addr × List Str)) : List V := Bl.map fun x => V.ref x.1
theorem Pen.off {H H' : Hp} {p l D : Addr} {cs : List Int} {n : Nat} (h : Pen H p l cs n) (b : But H H' D) (hp : D ≠ p) (hl : D ≠ l) : Pen H' p l cs n := by
  obtain ⟨i, g, h1, h2, h3⟩ := h
  exact ⟨i, g, b _ _ hp.symm h1, b _ _ hl.symm h2, h3⟩
/-- lists of texts, each at its own address, apart from those in av -/
structure BlL (H : Hp) (q : Addr) (av : List Addr) (Bl : List (Addr × List Str)) : Prop where
  at_ : H q = some (.lst (refsL Bl))
  each : ∀ x ∈ Bl, H x.1 = some (.lst (strv x.2)) ∧ x.2 ≠ [] ∧ x.1 ≠ q ∧ x.1 ∉ av
  nd : (Bl.map (·.1)).Nodup
def NoBoth (Bl : List (Addr × List Str)) : Prop := ∀ x ∈ Bl, ¬ (("ground" : Str) ∈ x.2 ∧ ("power" : Str) ∈ x.2)
theorem BlL.but {H H' : Hp} {p q : Addr} {av : List Addr} {Bl : List (Addr × List Str)} (h : BlL H q av Bl) (b : But H H' p) (hq : q ≠ p) (hp : p ∈ av) : BlL H' q av Bl :=
  ⟨b _ _ hq h.at_, fun x hx => ⟨b _ _ (fun e => (h.each x hx).2.2.2 (by rw [e]; exact hp)) (h.each x hx).1, (h.each x hx).2⟩, h.nd⟩
theorem BlL.same {H H' : Hp} {q : Addr} {av : List Addr} {Bl : List (Addr × List Str)} (h : BlL H q av Bl) (s : Same H H') : BlL H' q av Bl := ⟨s _ _ h.at_, fun x hx => ⟨s _ _ (h.each x hx).1, (h.each x hx).2⟩, h.nd⟩
/-- one more block -/
theorem BlL.snoc {H : Hp} {q x : Addr} {av : List Addr} {Bl : List (Addr × List Str)} {z : Str} (h : BlL H q av Bl) (hx : H x = some (.lst [.str z])) (hn : x ∉ Bl.map (·.1)) (hq : x ≠ q) (ha : x ∉ av) : BlL (upd H q (.lst (refsL Bl ++ [.ref x]))) q av (Bl ++ [(x, [z])]) := by
  refine ⟨?_, fun y hy => ?_, ?_⟩
  · rw [upd_same]
    unfold refsL
    rw [List.map_append]
    rfl
  · rcases List.mem_append.mp hy with hy | hy
    · have := h.each y hy
      exact ⟨by rw [upd_ne this.2.2.1]; exact this.1, this.2⟩
    · rw [List.mem_singleton.mp hy]
      exact ⟨by rw [upd_ne hq]; exact hx, List.cons_ne_nil _ _, hq, ha⟩
  · rw [List.map_append]
    refine List.nodup_append.mpr ⟨h.nd, (by simp), fun a ha b hb e => ?_⟩
    rw [show b = x from List.mem_singleton.mp hb] at e
    exact hn (e ▸ ha)
/-- a name more in a block -/
theorem BlL.put {H : Hp} {q : Addr} {av : List Addr} {Bl : List (Addr × List Str)} {i : Nat} {y : Addr × List Str} {z : Str} (h : BlL H q av Bl) (e : Bl[i]? = some y) : BlL (upd H y.1 (.lst (strv y.2 ++ [.str z]))) q av (Bl.set i (y.1, y.2 ++ [z])) := by
  have hi : i < Bl.length := (List.getElem?_eq_some_iff.mp e).1
  have ey : Bl[i] = y := (List.getElem?_eq_some_iff.mp e).2
  have hy := h.each y (List.mem_of_getElem? e)
  have em : (Bl.set i (y.1, y.2 ++ [z])).map (·.1) = Bl.map (·.1) := by
    rw [List.map_set]
    refine List.ext_getElem? fun j => ?_
    by_cases hj : i = j
    · subst hj
      rw [List.getElem?_set_self (by rw [List.length_map]; exact hi), List.getElem?_map, e]
      rfl
    · rw [List.getElem?_set_ne hj]
  refine ⟨?_, fun x hx => ?_, by rw [em]; exact h.nd⟩
  · rw [upd_ne hy.2.2.1.symm, h.at_]
    unfold refsL
    rw [show (fun x : Addr × List Str => V.ref x.1) = V.ref ∘ (·.1) from rfl, ← List.map_map, ← List.map_map, em]
  · obtain ⟨j, hj, ej⟩ := List.getElem_of_mem hx
    rw [List.length_set] at hj
    by_cases hij : i = j
    · subst hij
      rw [List.getElem_set_self] at ej
      subst ej
      refine ⟨?_, by simp, hy.2.2⟩
      rw [upd_same]
      show _ = some (HO.lst (List.map V.str _))
      rw [List.map_append]
      rfl
    · rw [List.getElem_set_ne hij] at ej
      subst ej
      have := h.each _ (List.getElem_mem hj)
      refine ⟨?_, this.2⟩
      rw [upd_ne fun q => hij ?_]
      · exact this.1
      · have hnd := h.nd
        have e1 : (Bl.map (·.1))[j]'(by rw [List.length_map]; exact hj) = (Bl.map (·.1))[i]'(by rw [List.length_map]; exact hi) := by
          rw [List.getElem_map, List.getElem_map, ey]
          exact q
        exact ((List.getElem_inj hnd).mp e1).symm
theorem allN_set {Bl : List (Addr × List Str)} {i : Nat} {y : Addr × List Str} {z : Str} (e : Bl[i]? = some y) : (allN (Bl.set i (y.1, y.2 ++ [z]))).Perm (allN Bl ++ [z]) := by
  induction Bl generalizing i with
  | nil => cases e
  | cons x Bl ih =>
    cases i with
    | zero =>
      obtain rfl := Option.some.inj e
      show ((x.2 ++ [z]) ++ allN Bl).Perm (x.2 ++ allN Bl ++ [z])
      rw [List.append_assoc, List.append_assoc]
      exact (List.perm_append_comm (l₁ := [z])).append_left _
    | succ i =>
      show (x.2 ++ allN (Bl.set i (y.1, y.2 ++ [z]))).Perm (x.2 ++ allN Bl ++ [z])
      rw [List.append_assoc]
      exact (ih e).append_left _
def spPar : Sp := fun vs H Q _ => ∃ (p l : Addr) (cs : List Int) (n : Nat) (b : Addr) (d : BareD), vs = [.ref p, .ref b] ∧ Pen H p l cs n ∧ BareAt H b d p ∧ d.ok ∧ n < 80000 ∧
  ∀ q Bl H', BlL H' q [p, sysModules] Bl → (allN Bl).Perm (memB d) → NoBoth Bl → H q = none → (∀ x ∈ Bl, H x.1 = none) → Pen H' p l cs (n + 40) → But H H' p → Q (.ref q) H'
structure PaT (P : Program) (w : World) (K : PySem.W.Frag) (mg : Str → Option Value) (base : Heap) : Prop where
  dw : DwT P w K mg base
  mms : ∃ f fd, mg "_law_members" = some (.ref f) ∧ PySem.W.keepIn K (.ref f) = true ∧ Binds K fd ["_law_bare_here"] [] ∧ FnOk P w K mg base CX0 2 f fd ["_law_bare_here"] spMms
  len : mg "len" = none
theorem power_le : ¬ OrdS.Le "power" "ground" := by
  unfold OrdS.Le
  decide +kernel
section
variable {P : Program} {w : World} {K : PySem.W.Frag} {mg : Str → Option Value} {base : Heap}
theorem ok_par {f : Addr} {fd : FuncData} (F : Fun K "_law_parted" "_law_parted" sPar f fd) (T : PaT P w K mg base) : FnOk P w K mg base CX0 3 f fd ["_law_pen_here", "_law_bare_here"] spPar := by
  obtain ⟨fD, fdD, mD, kD, bD, GD⟩ := T.dw.draw
  obtain ⟨fM, fdM, mM, kM, bM, GM⟩ := T.mms
  refine F.ok scPar (fun vs H Q E h => ?_) (fun cdv A outer s H vs Q E hr h => ?_)
  · obtain ⟨p, l, cs, n, b, d, rfl, _⟩ := h
    rfl
  · obtain ⟨p, l, cs, n, b, d, rfl, hP, hB, ok, hn, k⟩ := h
    have hr1 := hr.mono (show 1 ≤ 2 by decide)
    refine ⟨_, pss_cons (ps_set (i := 2) scPar.nd rfl (Or.inl rfl) (pe_lst pa_nil))
      (pss_cons (ps_for PassesOwn.never rfl (pi_list (pe_call GM hr rfl mM kM bM .nil pass0 (pa_cons (pv 1) pa_nil))) (pg_name (i := 3) scPar.nd rfl (Or.inl rfl))
        (pss_cons (ps_set (i := 4) scPar.nd rfl (Or.inl rfl) (pe_call GD hr1 rfl mD kD bD .nil pass0 (pa_cons (pv 0) (pa_cons (pe_op op_add (pe_op op_add (pe_callB call_len_seq (by rfl) T.len PySem.boot_len (pa_cons (pv 2) pa_nil)) pe_int) (pe_call GD hr1 rfl mD kD bD .nil pass0 (pa_cons (pv 0) (pa_cons pe_int pa_nil)))) pa_nil))))
        (pss_one (ps_if (PW.pt (pw_and (pt_cmpR op_lt (pv 4) (pe_callB call_len_seq (by rfl) T.len PySem.boot_len (pa_cons (pv 2) pa_nil)) (nomark _)) (pw_and1 (pt_not (PW.pt (pw_and (pt_cmpR op_eq (pv 3) pe_str (nomark _)) (pw_and1 (pt_cmpR op_in_seq pe_str (pe_ix ix_list (pv 2) (pv 4) (fun _ _ => rfl)) (by rfl)))))))))
          (pss_cons (ps_set (i := 5) scPar.nd rfl (Or.inl rfl) (pe_ix ix_list (pv 2) (pv 4) (fun _ _ => rfl)))
          (pss_one (ps_expr (pe_bm PySem.F.plainAttrs_list PySem.F.slot_list_append PySem.F.type_list_append mt_append (pv 5) (pa_cons (pv 3) pa_nil)))))
          (pss_one (ps_expr (pe_bm PySem.F.plainAttrs_list PySem.F.slot_list_append PySem.F.type_list_append mt_append (pv 2) (pa_cons (pe_lstN (pa_cons (pv 3) pa_nil)) pa_nil))))))))
      (pss_one (ps_ret (pv 2)))), ?_⟩
    refine ⟨by show 0 ≤ sizeLine; decide, fun q hq => ?_⟩
    have s1 := same_at (o := .lst []) hq
    obtain ⟨H1, e1⟩ : ∃ H1, H1 = upd H q (.lst []) := ⟨_, rfl⟩
    have hq1 : H1 q = some (.lst []) := by rw [e1, upd_same]
    rw [← e1] at s1 ⊢
    refine ⟨_, rfl, b, d, p, rfl, hB.same s1, ok, fun zs ml H2 hzs hso hml0 hml s2 => ?_⟩
    have hzl : (strv zs).length = zs.length := List.length_map _
    have hz18 : zs.length ≤ 18 := by
      rw [hzs.length_eq, List.length_append, List.length_append]
      have := ok.le
      have := rails_le d.g d.r
      omega
    have s02 := s1.trans s2
    have nqm : q ≠ ml := ne_of_none hq1 hml0
    have hm0 : H ml = none := s1.free hml0
    have nqp : q ≠ p := nep hP hq
    have nql : q ≠ l := fun e => by
      obtain ⟨_, _, _, z2, _⟩ := hP
      rw [e, z2] at hq
      cases hq
    have nmp : ml ≠ p := nep hP hm0
    have pw := OrdS.sorted_pw hso
    refine ⟨ml, rfl, ⟨_, SqL.of hml⟩, ?_⟩
    refine for_list (xs := strv zs) (fun i σ H' => (∃ o3 o4 o5, σ = [some (.ref p), some (.ref b), some (.ref q), o3, o4, o5]) ∧ Pen H' p l cs (n + 2 * i) ∧ But H H' p ∧ H' ml = some (.lst (strv zs)) ∧ ∃ Bl, BlL H' q [p, sysModules, ml] Bl ∧ (allN Bl).Perm (zs.take i) ∧ NoBoth Bl ∧ Bl.length ≤ i ∧ ∀ x ∈ Bl, H x.1 = none)
      ⟨⟨_, _, _, rfl⟩, hP.same s02, But.of s02, hml, [], ⟨s2 _ _ hq1, fun x hx => (by cases hx), .nil⟩, List.Perm.refl _, fun x hx => (by cases hx), Nat.le_refl _, fun x hx => by cases hx⟩ (fun i σ H' _ h => SqL.of h.2.2.2.1) ?_ ?_
    · rintro i x σ H3 hx ⟨⟨o3, o4, o5, rfl⟩, P3, b3, hm3, Bl, hL, hpm, hnb, hbl, hfr⟩
      have hi : i < zs.length := by rw [← hzl]; exact (List.getElem?_eq_some_iff.mp hx).1
      have ex : (strv zs)[i]? = some (.str zs[i]) := by show (zs.map V.str)[i]? = _; rw [List.getElem?_map, List.getElem?_eq_getElem hi]; rfl
      rw [ex] at hx
      obtain rfl := Option.some.inj hx
      have hrl : (refsL Bl).length = Bl.length := List.length_map _
      have etk : zs.take (i + 1) = zs.take i ++ [zs[i]] := by rw [List.take_add_one, List.getElem?_eq_getElem hi]; rfl
      refine ⟨_, rfl, _, rfl, q, _, rfl, .inl (SqL.of hL.at_), _, 1, rfl, rfl, _, rfl, p, l, cs, _, 2, rfl, P3, by decide, by decide, by omega, fun d2 i4 g4 H4 d20 d21 i40 in4 hp4 b4 => ?_⟩
      have P4 : Pen H4 p l cs (n + 2 * i + 1) := P3.next i40 in4 hp4 b4
      refine ⟨_, d2, rfl, rfl, p, l, cs, _, _, rfl, P4, by omega, by omega, by omega, fun at_ i5 g5 H5 a0 a1 i50 in5 hp5 b5 => ?_⟩
      have P5 : Pen H5 p l cs (n + 2 * (i + 1)) := P4.next i50 in5 hp5 b5
      have b35 := b4.trans b5
      have b05 := b3.trans b35
      have hm5 := b35 _ _ nmp hm3
      have hL5 := hL.but b35 nqp (List.mem_cons_self)
      have z5 : H5 q = some (.lst (refsL Bl)) := hL5.at_
      have fin : ∀ (o5 : Option V) (H6 : Hp) (Bl' : List (Addr × List Str)), BlL H6 q [p, sysModules, ml] Bl' → (allN Bl').Perm (zs.take (i + 1)) → NoBoth Bl' → Bl'.length ≤ i + 1 → (∀ x ∈ Bl', H x.1 = none) → Pen H6 p l cs (n + 2 * (i + 1)) → But H H6 p → H6 ml = some (.lst (strv zs)) →
          (∃ o3 o4 o5', ([some (V.ref p), some (.ref b), some (.ref q), some (.str zs[i]), some (.int at_), o5] : L2.St) = [some (.ref p), some (.ref b), some (.ref q), o3, o4, o5']) ∧ Pen H6 p l cs (n + 2 * (i + 1)) ∧ But H H6 p ∧ H6 ml = some (.lst (strv zs)) ∧ ∃ Bl, BlL H6 q [p, sysModules, ml] Bl ∧ (allN Bl).Perm (zs.take (i + 1)) ∧ NoBoth Bl ∧ Bl.length ≤ i + 1 ∧ ∀ x ∈ Bl, H x.1 = none :=
        fun o5 H6 Bl' h1 h2 h3 h4 h5 h6 h7 h8 => ⟨⟨_, _, _, rfl⟩, h6, h7, h8, Bl', h1, h2, h3, h4, h5⟩
      -- a new block
      have els : ∀ l0, H5 l0 = none → sysModules ≠ l0 → (∃ o3 o4 o5', ([some (V.ref p), some (.ref b), some (.ref q), some (.str zs[i]), some (.int at_), o5] : L2.St) = [some (.ref p), some (.ref b), some (.ref q), o3, o4, o5']) ∧ Pen (upd (upd H5 l0 (.lst [.str zs[i]])) q (.lst (refsL Bl ++ [.ref l0]))) p l cs (n + 2 * (i + 1)) ∧ But H (upd (upd H5 l0 (.lst [.str zs[i]])) q (.lst (refsL Bl ++ [.ref l0]))) p ∧
          upd (upd H5 l0 (.lst [.str zs[i]])) q (.lst (refsL Bl ++ [.ref l0])) ml = some (.lst (strv zs)) ∧ ∃ Bl', BlL (upd (upd H5 l0 (.lst [.str zs[i]])) q (.lst (refsL Bl ++ [.ref l0]))) q [p, sysModules, ml] Bl' ∧ (allN Bl').Perm (zs.take (i + 1)) ∧ NoBoth Bl' ∧ Bl'.length ≤ i + 1 ∧ ∀ x ∈ Bl', H x.1 = none := fun l0 hl0 hnl => by
        have s56 := same_at (o := .lst [V.str zs[i]]) hl0
        have nlq : l0 ≠ q := fun e => by rw [e, z5] at hl0; cases hl0
        have nlm : l0 ≠ ml := fun e => by rw [e, hm5] at hl0; cases hl0
        have nlp : l0 ≠ p := nep P5 hl0
        have nlB : l0 ∉ Bl.map (·.1) := fun hm => by
          obtain ⟨y, hy, e⟩ := List.mem_map.mp hm
          rw [← e, (hL5.each y hy).1] at hl0
          cases hl0
        have h0 : H l0 = none := b05.free nlp hl0
        have keep : ∀ c o, c ≠ q → H5 c = some o → upd (upd H5 l0 (.lst [.str zs[i]])) q (.lst (refsL Bl ++ [.ref l0])) c = some o := fun c o hc e => by rw [upd_ne hc]; exact s56 _ _ e
        refine fin _ _ (Bl ++ [(l0, [zs[i]])]) ((hL5.same s56).snoc upd_same nlB nlq (by simp [nlp, nlm, hnl.symm])) ?_ (fun x hx => ?_) (by rw [List.length_append]; show Bl.length + 1 ≤ _; omega) (fun x hx => ?_) ((P5.same s56).off (.upd _ _ _) nqp nql) (fun c o hc e => ?_) (keep _ _ nqm.symm hm5)
        · have : allN (Bl ++ [(l0, [zs[i]])]) = allN Bl ++ [zs[i]] := by unfold allN; rw [List.flatMap_append]; rfl
          rw [this, etk]
          exact hpm.append_right _
        · rcases List.mem_append.mp hx with hx | hx
          · exact hnb x hx
          · rw [List.mem_singleton.mp hx]
            rintro ⟨h1, h2⟩
            have e1 := List.mem_singleton.mp h1
            have e2 := List.mem_singleton.mp h2
            rw [← e1] at e2
            exact absurd e2 (by decide)
        · rcases List.mem_append.mp hx with hx | hx
          · exact hfr x hx
          · rw [List.mem_singleton.mp hx]
            exact h0
        · exact keep _ _ (ne_of_none e hq) (b05 _ _ hc e)
      -- a name more
      have thn : ∀ (y : Addr × List Str), Bl[at_.toNat]? = some y → (zs[i] = "power" → ("ground" : Str) ∉ y.2) → (∃ o3 o4 o5', ([some (V.ref p), some (.ref b), some (.ref q), some (.str zs[i]), some (.int at_), some (.ref y.1)] : L2.St) = [some (.ref p), some (.ref b), some (.ref q), o3, o4, o5']) ∧ Pen (upd H5 y.1 (.lst (strv y.2 ++ [.str zs[i]]))) p l cs (n + 2 * (i + 1)) ∧ But H (upd H5 y.1 (.lst (strv y.2 ++ [.str zs[i]]))) p ∧
          upd H5 y.1 (.lst (strv y.2 ++ [.str zs[i]])) ml = some (.lst (strv zs)) ∧ ∃ Bl', BlL (upd H5 y.1 (.lst (strv y.2 ++ [.str zs[i]]))) q [p, sysModules, ml] Bl' ∧ (allN Bl').Perm (zs.take (i + 1)) ∧ NoBoth Bl' ∧ Bl'.length ≤ i + 1 ∧ ∀ x ∈ Bl', H x.1 = none := fun y ey hpg => by
        have hy := hL5.each y (List.mem_of_getElem? ey)
        have hy0 := hfr y (List.mem_of_getElem? ey)
        have nyp : y.1 ≠ p := fun e => hy.2.2.2 (by rw [e]; exact List.mem_cons_self)
        have nym : y.1 ≠ ml := fun e => hy.2.2.2 (by rw [e]; simp)
        refine fin _ _ (Bl.set at_.toNat (y.1, y.2 ++ [zs[i]])) (hL5.put ey) ?_ (fun x hx => ?_) (by rw [List.length_set]; omega) (fun x hx => ?_) (P5.off (.upd _ _ _) nyp (fun e => ?_)) (fun c o hc e => ?_) (by rw [upd_ne nym.symm]; exact hm5)
        · rw [etk]
          exact (allN_set ey).trans (hpm.append_right _)
        · rcases List.mem_or_eq_of_mem_set hx with hx | rfl
          · exact hnb x hx
          · rintro ⟨h1, h2⟩
            have hyb := hnb y (List.mem_of_getElem? ey)
            rcases List.mem_append.mp h1 with h1 | h1
            · rcases List.mem_append.mp h2 with h2 | h2
              · exact hyb ⟨h1, h2⟩
              · exact hpg (List.mem_singleton.mp h2).symm h1
            · rcases List.mem_append.mp h2 with h2 | h2
              · have hz : ("power" : Str) ∈ zs.take i := hpm.mem_iff.mp (List.mem_flatMap.mpr ⟨y, List.mem_of_getElem? ey, h2⟩)
                obtain ⟨j, hj, ej⟩ := List.getElem_of_mem hz
                rw [List.length_take] at hj
                rw [List.getElem_take] at ej
                have := List.pairwise_iff_getElem.mp pw j i (by omega) hi (by omega)
                rw [ej, ← List.mem_singleton.mp h1] at this
                exact power_le this
              · have e1 := List.mem_singleton.mp h1
                have e2 := List.mem_singleton.mp h2
                rw [← e1] at e2
                exact absurd e2 (by decide)
        · rcases List.mem_or_eq_of_mem_set hx with hx | rfl
          · exact hfr x hx
          · exact hy0
        · obtain ⟨_, _, _, z2, _⟩ := hP
          rw [e, z2] at hy0
          cases hy0
        · rw [upd_ne (ne_of_none e hy0)]
          exact b05 _ _ hc e
      refine ⟨_, rfl, _, rfl, q, _, rfl, .inl (SqL.of z5), at_, _, rfl, rfl, _, rfl, ?_⟩
      have z5l : (refsL Bl).length < sizeLine := by rw [hrl]; exact Nat.lt_of_lt_of_le (show Bl.length < 1000 by omega) (by decide)
      have zs5 : ∀ {l0 : Addr}, H5 l0 = none → upd H5 l0 (.lst [V.str zs[i]]) q = some (.lst (refsL Bl)) := fun {l0} h => by rw [upd_ne (ne_of_none z5 h)]; exact z5
      by_cases hlt : at_ < ((refsL Bl).length : Int)
      case neg =>
        rw [decide_eq_false hlt]
        exact iteF ⟨_, rfl, .inl ⟨rfl, _, SqL.of z5⟩, _, rfl, by show 1 ≤ sizeLine; decide, fun l0 hl0 hnl => ⟨q, _, .ref l0, rfl, rfl, zs5 hl0, z5l, els l0 hl0 hnl⟩⟩
      rw [decide_eq_true hlt]
      rw [hrl] at hlt
      have hk : at_.toNat < Bl.length := by omega
      have ey : Bl[at_.toNat]? = some Bl[at_.toNat] := List.getElem?_eq_getElem hk
      obtain ⟨y, e⟩ : ∃ y, y = Bl[at_.toNat] := ⟨_, rfl⟩
      rw [← e] at ey
      have hyat := (hL5.each y (List.mem_of_getElem? ey)).1
      have hat : atI (refsL Bl) at_ = some (V.ref y.1) := by
        have e2 : at_ = ((at_.toNat : Nat) : Int) := by omega
        rw [e2]
        exact atI_nat (by unfold refsL; rw [List.getElem?_map, ey]; rfl)
      have hsyl : (strv y.2).length < sizeLine := by
        have e3 : (strv y.2).length = y.2.length := List.length_map _
        have e4 : y.2.length ≤ (allN Bl).length := List.Sublist.length_le (List.sublist_flatten_of_mem (List.mem_map.mpr ⟨y, List.mem_of_getElem? ey, rfl⟩))
        have e5 := hpm.length_eq
        rw [List.length_take] at e5
        rw [e3]
        exact Nat.lt_of_lt_of_le (show y.2.length < 1000 by omega) (by decide)
      refine iteT ⟨_, rfl, rfl, _, rfl, ?_⟩
      by_cases ez : zs[i] = "power"
      case neg =>
        rw [decide_eq_false (show ¬ V.str zs[i] = V.str "power" from fun q => ez (V.str.inj q))]
        exact iteF ⟨_, rfl, _, rfl, q, _, at_, _, rfl, rfl, SqL.of z5, hat, _, rfl, .inl ⟨rfl, _, SqL.of hyat⟩, _, rfl, y.1, _, _, rfl, rfl, hyat, hsyl, thn y ey fun e => absurd e ez⟩
      rw [decide_eq_true (show V.str zs[i] = V.str "power" by rw [ez])]
      refine iteT ⟨_, rfl, _, rfl, q, _, at_, _, rfl, rfl, SqL.of z5, hat, y.1, strv y.2, rfl, .inl (SqL.of hyat), rfl, flat_strs _, decide (("ground" : Str) ∈ y.2), ?_, ?_⟩
      · show V.bl (inV _ _) = _
        rw [inV_strs]
      by_cases hg : ("ground" : Str) ∈ y.2
      · rw [decide_eq_true hg]
        exact iteF ⟨_, rfl, .inl ⟨rfl, _, SqL.of z5⟩, _, rfl, by show 1 ≤ sizeLine; decide, fun l0 hl0 hnl => ⟨q, _, .ref l0, rfl, rfl, zs5 hl0, z5l, els l0 hl0 hnl⟩⟩
      · rw [decide_eq_false hg]
        exact iteT ⟨_, rfl, _, rfl, q, _, at_, _, rfl, rfl, SqL.of z5, hat, _, rfl, .inl ⟨rfl, _, SqL.of hyat⟩, _, rfl, y.1, _, _, rfl, rfl, hyat, hsyl, thn y ey fun _ => hg⟩
    · rintro σ H3 ⟨⟨o3, o4, o5, rfl⟩, P3, b3, hm3, Bl, hL, hpm, hnb, hbl, hfr⟩
      rw [hzl, List.take_length] at hpm
      rw [hzl] at P3
      exact ⟨_, rfl, k q Bl H3 ⟨hL.at_, fun x hx => ⟨(hL.each x hx).1, (hL.each x hx).2.1, (hL.each x hx).2.2.1, fun hm => (hL.each x hx).2.2.2 ((List.mem_cons.mp hm).elim (fun e => by rw [e]; simp) (fun hm => by rw [List.mem_singleton.mp hm]; simp))⟩, hL.nd⟩ (hpm.trans hzs) hnb hq hfr (P3.mono (by omega)) b3⟩
end
end Sj
/-! {k: v for x in xs if .. for y in ys if ..} -/
namespace DcTwo
open PySem PySem.Spec PyProof.Rows L2
/-- one turn of clause n of E: body where the tests pass, and the loop again -/
def turnC (E : Expr) (n : Nat) (ip : Pos) (tg : Expr) (ifs : List Expr) (body : Sem Fin) (it acc : Value) (env : Env) : Sem Fin := do
  standAt ip
  match ← pyNext it with
  | none => pure (.done .next)
  | some v =>
    letOwnedTupleGo tg it v
    assign tg env v
    let mut ok := true
    for c in ifs do
      if ok then ok ← isTrue c env (eval c env)
    if ok then body else again (.compLoop E n it acc env)
def bodyOut (E i1 : Expr) (it acc : Value) (env : Env) : Sem Fin := do
  let x ← eval i1 env
  standAt i1.pos
  let x ← foldedSetIterable i1 env x
  let _ ← runOwn (.compStart E 1 (← holding [x] (pyIter x)) acc env) env
  again (.compLoop E 0 it acc env)
def storeIn (kx vx : Expr) (D : Addr) (env : Env) : Sem Unit := do
  let kv ← eval kx env
  let vv ← holding [kv] (eval vx env)
  standAt { kx.pos with endLine := vx.pos.endLine, endCol := vx.pos.endCol }
  holding [kv, vv] (dictSet D kv vv)
def bodyIn (E kx vx : Expr) (it : Value) (D : Addr) (env : Env) : Sem Fin := do
  storeIn kx vx D env
  again (.compLoop E 1 it (.ref D) env)
theorem out_eq (kx vx t0 i0 t1 i1 : Expr) (ifs0 ifs1 : List Expr) (scope : Scope) (pos : Pos) (it : Value) (D : Addr) (env : Env) :
    compTurn (.DictComp kx vx [⟨t0, i0, ifs0, 0⟩, ⟨t1, i1, ifs1, 0⟩] scope pos) 0 it (.ref D) env = turnC (.DictComp kx vx [⟨t0, i0, ifs0, 0⟩, ⟨t1, i1, ifs1, 0⟩] scope pos) 0 i0.pos t0 ifs0 (bodyOut (.DictComp kx vx [⟨t0, i0, ifs0, 0⟩, ⟨t1, i1, ifs1, 0⟩] scope pos) i1 it (.ref D) env) it (.ref D) env := by
  rfl
theorem in_eq (kx vx t0 i0 t1 i1 : Expr) (ifs0 ifs1 : List Expr) (scope : Scope) (pos : Pos) (it : Value) (D : Addr) (env : Env) :
    compTurn (.DictComp kx vx [⟨t0, i0, ifs0, 0⟩, ⟨t1, i1, ifs1, 0⟩] scope pos) 1 it (.ref D) env = turnC (.DictComp kx vx [⟨t0, i0, ifs0, 0⟩, ⟨t1, i1, ifs1, 0⟩] scope pos) 1 i1.pos t1 ifs1 (bodyIn (.DictComp kx vx [⟨t0, i0, ifs0, 0⟩, ⟨t1, i1, ifs1, 0⟩] scope pos) kx vx it D env) it (.ref D) env := by
  rfl
/-- a clause's turns -/
def turns (J : It) (g : TG) (tt : TT) (vs : List Nat) (σ : L2.St) (tb : L2.St → Hp → (Hp → Prop) → Prop) (W : Nat → Nat → Hp → Prop) (Qd : Hp → Prop) : Prop :=
  ∀ i m H, W i m H → (J.stop i H ∧ Qd H) ∨ (J.go i H ∧ ∃ Nx : Hp → Prop, (∀ H', Nx H' → ∃ m', m' < m ∧ W (i + 1) m' H') ∧ ∀ x H', J.yld i H x H' → g x (wipe σ vs) H' fun σ2 H2 => wipe σ2 vs = wipe σ vs ∧ tt σ2 H2 fun b H3 => if b = true then tb σ2 H3 Nx else Nx H3)
section
variable {Y : Cx}
theorem loop_gen {kx vx : Expr} {gens : List Comprehension} {scope : Scope} {pos : Pos} {E : Expr} (eE : E = .DictComp kx vx gens scope pos) {n : Nat} {ip : Pos} {tg : Expr} {ifs : List Expr} {body : Sem Fin} {it D : Addr} {J : It} {g : TG} {tt : TT} {vs : List Nat} {fp : List Addr} {tn : Nat → Heap → Prop} {σ : L2.St} {tb : L2.St → Hp → (Hp → Prop) → Prop} {W : Nat → Nat → Hp → Prop} {Qd : Hp → Prop} {R : Result → Shared → Prop} {pins : List (Addr × Obj)}
    (ct : compTurn E n (.ref it) (.ref D) Y.env = turnC E n ip tg ifs body (.ref it) (.ref D) Y.env) (hc : Y.calm = true) (T : Turn Y.prog Y.w Y.K tg J fp it tn) (hg : PG Y tg g) (ht : PTs Y ifs tt) (hl : turns J g tt vs σ tb W Qd)
    (xe : ∀ e s', Y.xe e s' → notedBy (model Y.prog Y.w) Y.A Y.env (fun e s' => R (.error e) s') e s')
    (hb : ∀ (ps : List (Addr × Obj)) (s : Shared) (σ2 : L2.St) (H : Hp) (Nx : Hp → Prop), Inv Y ps σ2 H s → tb σ2 H Nx → wpAny (model Y.prog Y.w) Y.A body (fun r s' => r = .again (.compLoop E n (.ref it) (.ref D) Y.env) ∧ ∃ σ' H', Inv Y ps σ' H' s' ∧ σ'.length = σ2.length ∧ (∀ (j : Nat) v, (wipe σ2 vs)[j]? = some (some v) → σ'[j]? = some (some v)) ∧ Nx H') Y.xe s)
    (stat : ∀ (σ' : L2.St) (H' : Hp) (s' : Shared), Inv Y pins σ' H' s' → (∀ b ∈ fp, H' b = none) → ∀ b ∈ fp, FpOk Y pins H' b)
    (fin : ∀ H' s', Inv Y pins (wipe σ vs) H' s' → Qd H' → R (.ok .next) s')
    {i m : Nat} {H : Hp} {s : Shared} (I : Inv Y pins (wipe σ vs) H s) (st : tn i s.heap) (nf : ∀ b ∈ fp, H b = none) (hw : W i m H) :
    codeAny (model Y.prog Y.w) Y.A (.compLoop E n (.ref it) (.ref D) Y.env) R s := by
  subst eE
  refine codeAny_loop rfl (fun n s' => ∃ i H', Inv Y pins (wipe σ vs) H' s' ∧ tn i s'.heap ∧ (∀ b ∈ fp, H' b = none) ∧ W i n H') (fun k s5 hI => ?_) m ⟨i, H, I, st, nf, hw⟩
  show wpAny _ Y.A ((compTurn (.DictComp kx vx gens scope pos) n (.ref it) (.ref D) Y.env).onRaise (fun x => do noteFrame x Y.env; theTreesLotGoes x)) _ _ s5
  refine wpAny_noted ?_
  rw [ct]
  obtain ⟨i, H5, I5, st5, n5, w5⟩ := hI
  unfold turnC
  refine wpAny_bind (wpAny_standAt (wpAny_bind ?_))
  rcases hl i k H5 w5 with ⟨stop, qq⟩ | ⟨go, Nx, hNx, step⟩
  · refine thnF (T.done Y rfl rfl rfl hc i pins s5 _ H5 (fun _ _ => False) I5 (stat _ _ _ I5 n5) st5 stop) fun r s6 ⟨hr, I6⟩ => ?_
    subst hr
    exact wpAny_pure (fin H5 s6 I6 qq)
  · refine thnF (T.item Y rfl rfl rfl hc i pins s5 _ H5 (fun _ _ => False) I5 (stat _ _ _ I5 n5) st5 go) fun r s6 ⟨u, hr, h6⟩ => ?_
    subst hr
    refine wpAny_bind (thnF h6 fun _ s7 ⟨x, H7, I7, r7, y7, st7, n7⟩ => ?_)
    have I7' := I7.pinned (stat _ _ _ I7 n7) (T.obj _ _ st7)
    refine wpAny_bind (wpAny_mono (hg.run _ s7 _ H7 x u _ I7' r7 (step x H7 y7)) (fun _ s8 ⟨σ8, H8, I8, hw8, q8⟩ => ?_) xe)
    have back : ∀ {σ9 : L2.St} {s' : Shared} {H' : Hp}, Inv Y (pins ++ pinsAt fp s7.heap) σ9 H' s' → σ9.length = σ8.length → (∀ (j : Nat) v, (wipe σ8 vs)[j]? = some (some v) → σ9[j]? = some (some v)) → Nx H' → ∃ m, m < k ∧ ∃ i H', Inv Y pins (wipe σ vs) H' s' ∧ tn i s'.heap ∧ (∀ b ∈ fp, H' b = none) ∧ W i m H' := fun {σ9 s' H'} I' l9 k9 nx => by
      obtain ⟨m', hm, w'⟩ := hNx H' nx
      have held : ∀ b ∈ fp, ∀ o, s7.heap.get? b = some o → s'.heap.get? b = some o ∧ H' b = none := fun b hb o e => by
        have z := I'.pin (b, o) (List.mem_append_right _ (List.mem_append_right _ (mem_pinsAt hb e)))
        exact ⟨z.1, z.2.1⟩
      refine ⟨m', hm, i + 1, H', ?_, T.keep _ _ _ st7 fun b hb o e => (held b hb o e).1, fun b hb => ?_, w'⟩
      · refine (I'.unpinned (pins := pins)).weak (by rw [l9, ← hw8, wipe_length]) fun j v e => ?_
        rw [← hw8] at e
        exact k9 j v e
      · obtain ⟨o, e, _⟩ := T.obj _ _ st7 b hb
        exact (held b hb o e).2
    refine wpAny_bind (wpAny_mono (ht.run _ s8 σ8 H8 _ I8 q8) (fun b s9 ⟨H9, I9, q9⟩ => ?_) xe)
    cases b with
    | false =>
      simp only [Bool.false_eq_true, if_false] at q9 ⊢
      exact wpAny_pure ⟨rfl, back I9 rfl (fun j v e => (wipe_some e).1) q9⟩
    | true =>
      simp only [if_true] at q9 ⊢
      refine wpAny_mono (hb _ s9 σ8 H9 Nx I9 q9) (fun r s10 ⟨er, σ', H', I', l', k', nx⟩ => ?_) xe
      subst er
      exact ⟨rfl, back I' l' k' nx⟩
/-- the element is stored -/
def tbIn (D : Addr) (tk tv : TE) : L2.St → Hp → (Hp → Prop) → Prop := fun σ H Nx => tk σ H fun y H1 => tv σ H1 fun z H2 => ∃ kvs k, y = kV k ∧ H2 D = some (.dK kvs) ∧ kvs.length < sizeLine ∧ Nx (upd H2 D (.dK (putK kvs k z)))
theorem in_run {E kx vx : Expr} {it D : Addr} {tk tv : TE} {vs : List Nat} (hk : PE Y kx tk) (hv : PE Y vx tv) (ps : List (Addr × Obj)) (s : Shared) (σ2 : L2.St) (H : Hp) (Nx : Hp → Prop) (I : Inv Y ps σ2 H s) (h : tbIn D tk tv σ2 H Nx) :
    wpAny (model Y.prog Y.w) Y.A (bodyIn E kx vx (.ref it) D Y.env) (fun r s' => r = .again (.compLoop E 1 (.ref it) (.ref D) Y.env) ∧ ∃ σ' H', Inv Y ps σ' H' s' ∧ σ'.length = σ2.length ∧ (∀ (j : Nat) v, (wipe σ2 vs)[j]? = some (some v) → σ'[j]? = some (some v)) ∧ Nx H') Y.xe s := by
  unfold bodyIn storeIn
  refine wpAny_bind (wpAny_bind (thn (hk.run ps s σ2 H _ I h) fun kv s1 ⟨y, H1, I1, r1, h1⟩ => wpAny_bind (wpAny_holding (thn (hv.run ps s1 σ2 H1 _ I1 h1) fun vv s2 ⟨z, H2, I2, r2, kvs, k, ek, hD, hz, nx⟩ => ?_))))
  subst ek
  refine wpAny_bind (wpAny_standAt (wpAny_holding (d_dictSet I2 hD hz r1 r2 fun s3 I3 => ?_)))
  exact wpAny_pure ⟨rfl, σ2, _, I3, rfl, fun j v e => (wipe_some e).1, nx⟩
/-- the second clause's start -/
theorem start1 {kx vx t0 i0 t1 i1 : Expr} {ifs0 ifs1 : List Expr} {scope : Scope} {pos : Pos} {it acc : Value} {env : Env} {prog : Program} {w : World} {A : Around} {R : Result → Shared → Prop} {s : Shared} (h0 : codeAny (model prog w) A (.compLoop (.DictComp kx vx [⟨t0, i0, ifs0, 0⟩, ⟨t1, i1, ifs1, 0⟩] scope pos) 1 it acc env) R s)
    (h : wpAny (model prog w) A (pyIter it) (fun it' s' => codeAny (model prog w) A (.compLoop (.DictComp kx vx [⟨t0, i0, ifs0, 0⟩, ⟨t1, i1, ifs1, 0⟩] scope pos) 1 it' acc env) R s') (notedBy (model prog w) A env fun x s' => R (.error x) s') s) :
    codeAny (model prog w) A (.compStart (.DictComp kx vx [⟨t0, i0, ifs0, 0⟩, ⟨t1, i1, ifs1, 0⟩] scope pos) 1 it acc env) R s := by
  refine codeAny_of_tree (show wpAny _ _ ((compStart (.DictComp kx vx [⟨t0, i0, ifs0, 0⟩, ⟨t1, i1, ifs1, 0⟩] scope pos) 1 it acc env).onRaise (fun x => do noteFrame x env; standAt theWindowsPlace)) _ _ s from wpAny_notedAt ?_)
  unfold compStart
  refine show wpAny _ _ (ask >>= _) _ _ s from wpAny_bind (wpAny_askSetting (wpAny_ite ?_))
  split
  · first
      | exact wpAny_bind (wpAny_pure (wpAny_pure ⟨rfl, h0⟩))
      | exact wpAny_pure ⟨rfl, h0⟩
  · refine wpAny_bind (wpAny_rule ?_)
    refine show wpAny _ _ (standAt i1.pos >>= _) _ _ s from wpAny_bind (wpAny_standAt (wpAny_bind (wpAny_mono h (fun it' s' h' => wpAny_pure ⟨rfl, h'⟩) fun _ _ x => x)))
/-- the inner clause -/
def tbOut (D : Addr) (wi1 : TI) (g1 : TG) (tt1 : TT) (tk tv : TE) (vs1 : List Nat) : L2.St → Hp → (Hp → Prop) → Prop := fun σ2 H3 Nx => wi1 σ2 H3 fun J1 H4 => ∃ W1 : Nat → Nat → Hp → Prop, (∃ m, W1 0 m H4) ∧ turns J1 g1 tt1 vs1 σ2 (tbIn D tk tv) W1 Nx
theorem out_run {kx vx t0 i0 t1 i1 : Expr} {ifs0 ifs1 : List Expr} {scope : Scope} {pos : Pos} {it D : Addr} {wi1 : TI} {g1 : TG} {tt1 : TT} {tk tv : TE} {vs vs1 : List Nat} (hc : Y.calm = true) (hs1 : ∀ env x, foldedSetIterable i1 env x = pure x) (hv1 : ∀ i ∈ vs1, i ∈ vs)
    (xf : ∀ e s', Y.xe e s' → False) (hi1 : PI Y t1 i1 wi1) (hg1 : PG Y t1 g1) (ht1 : PTs Y ifs1 tt1) (hk : PE Y kx tk) (hv : PE Y vx tv) (ps : List (Addr × Obj)) (s : Shared) (σ2 : L2.St) (H : Hp) (Nx : Hp → Prop) (I : Inv Y ps σ2 H s) (h : tbOut D wi1 g1 tt1 tk tv vs1 σ2 H Nx) :
    wpAny (model Y.prog Y.w) Y.A (bodyOut (.DictComp kx vx [⟨t0, i0, ifs0, 0⟩, ⟨t1, i1, ifs1, 0⟩] scope pos) i1 (.ref it) (.ref D) Y.env) (fun r s' => r = .again (.compLoop (.DictComp kx vx [⟨t0, i0, ifs0, 0⟩, ⟨t1, i1, ifs1, 0⟩] scope pos) 0 (.ref it) (.ref D) Y.env) ∧ ∃ σ' H', Inv Y ps σ' H' s' ∧ σ'.length = σ2.length ∧ (∀ (j : Nat) v, (wipe σ2 vs)[j]? = some (some v) → σ'[j]? = some (some v)) ∧ Nx H') Y.xe s := by
  unfold bodyOut
  refine wpAny_bind (thn (hi1.run ps s σ2 H _ I h) fun x s1 hx => wpAny_bind (wpAny_standAt (wpAny_bind (wpAny_of_eq (hs1 _ x) (wpAny_bind (wpAny_holding (thn hx fun itv s2 h2 => ?_)))))))
  obtain ⟨it1, fp, tn, J1, H2, e, I2, T, st2, f2, W1, ⟨m1, w1⟩, hl⟩ := h2
  subst e
  refine wpAny_bind (wpAny_runOwn ?_)
  rw [Around.mark_none]
  have loop : codeAny (model Y.prog Y.w) Y.A (.compLoop (.DictComp kx vx [⟨t0, i0, ifs0, 0⟩, ⟨t1, i1, ifs1, 0⟩] scope pos) 1 (.ref it1) (.ref D) Y.env)
      (fun r s' => match r with
        | .ok _ => ∃ H', Inv Y ps (wipe σ2 vs1) H' s' ∧ Nx H'
        | .error _ => False) s2 :=
    loop_gen rfl (in_eq kx vx t0 i0 t1 i1 ifs0 ifs1 scope pos (.ref it1) D Y.env) hc T hg1 ht1 hl (fun e s' z => (xf e s' z).elim) (in_run hk hv) (fun σ' H' s' _ hn b hb => ⟨hn b hb, (f2 b hb).2⟩) (fun H' s' I' nx => ⟨H', I', nx⟩) (I2.weak (wipe_length _ _) fun j v e => (wipe_some e).1) st2 (fun b hb => (f2 b hb).1) w1
  refine codeAny_mono (start1 loop (T.self Y.A 0 _ _ _ st2 loop)) fun r s' hr => ?_
  cases r with
  | error e => exact hr.elim
  | ok f =>
    obtain ⟨H', I', nx⟩ := hr
    have fin : wpAny (model Y.prog Y.w) Y.A (again (.compLoop (.DictComp kx vx [⟨t0, i0, ifs0, 0⟩, ⟨t1, i1, ifs1, 0⟩] scope pos) 0 (.ref it) (.ref D) Y.env)) (fun r s' => r = .again (.compLoop (.DictComp kx vx [⟨t0, i0, ifs0, 0⟩, ⟨t1, i1, ifs1, 0⟩] scope pos) 0 (.ref it) (.ref D) Y.env) ∧ ∃ σ' H', Inv Y ps σ' H' s' ∧ σ'.length = σ2.length ∧ (∀ (j : Nat) v, (wipe σ2 vs)[j]? = some (some v) → σ'[j]? = some (some v)) ∧ Nx H') Y.xe s' := by
      refine wpAny_pure ⟨rfl, _, H', I', wipe_length _ _, fun j v e => ?_, nx⟩
      obtain ⟨e1, e2⟩ := wipe_some e
      rw [wipe_out fun z => e2 (hv1 j z)]
      exact e1
    first
      | exact fin
      | exact wpAny_bind (wpAny_pure fin)
      | exact wpAny_pure fin
end
/-- {k: v for x in xs if .. for y in ys if ..}: D the new dict -/
def tDc2 (wi : TI) (g : TG) (tt : TT) (wi1 : TI) (g1 : TG) (tt1 : TT) (tk tv : TE) (vs vs1 : List Nat) : TE := fun σ H Q => wi σ H fun J H1 => ∀ D, H1 D = none → ∃ W : Nat → Nat → Hp → Prop, (∃ m, W 0 m (upd H1 D (.dK []))) ∧ turns J g tt vs σ (tbOut D wi1 g1 tt1 tk tv vs1) W (Q (.ref D))
section
variable {X : Cx}
theorem pe_dc2 {kx vx tg iter tg1 iter1 : Expr} {ifs ifs1 : List Expr} {scope : Scope} {own : List (PySem.Str × Nat)} {vs1 : List Nat} {pos : Pos} {wi wi1 : TI} {g g1 : TG} {tt tt1 : TT} {tk tv : TE} (hc : X.calm = true) (hN : X.N.Nodup) (hi : PI X tg iter wi) (ok : BlkOk X.N X.env.scope scope own) (hv1 : ∀ i ∈ vs1, i ∈ own.map (·.2))
    (hg : ∀ (s : Shared) (H : Hp) (C : Addr) (cl : List (PySem.Str × Addr)) (fp : List Addr), PG (X.blk s H scope (compEnvC scope cl C X.env) fp) tg g) (ht : ∀ (s : Shared) (H : Hp) (C : Addr) (cl : List (PySem.Str × Addr)) (fp : List Addr), PTs (X.blk s H scope (compEnvC scope cl C X.env) fp) ifs tt)
    (hi1 : ∀ (s : Shared) (H : Hp) (C : Addr) (cl : List (PySem.Str × Addr)) (fp : List Addr), PI (X.blk s H scope (compEnvC scope cl C X.env) fp) tg1 iter1 wi1)
    (hg1 : ∀ (s : Shared) (H : Hp) (C : Addr) (cl : List (PySem.Str × Addr)) (fp : List Addr), PG (X.blk s H scope (compEnvC scope cl C X.env) fp) tg1 g1) (ht1 : ∀ (s : Shared) (H : Hp) (C : Addr) (cl : List (PySem.Str × Addr)) (fp : List Addr), PTs (X.blk s H scope (compEnvC scope cl C X.env) fp) ifs1 tt1)
    (hk : ∀ (s : Shared) (H : Hp) (C : Addr) (cl : List (PySem.Str × Addr)) (fp : List Addr), PE (X.blk s H scope (compEnvC scope cl C X.env) fp) kx tk) (hv : ∀ (s : Shared) (H : Hp) (C : Addr) (cl : List (PySem.Str × Addr)) (fp : List Addr), PE (X.blk s H scope (compEnvC scope cl C X.env) fp) vx tv)
    (hs : ∀ x, foldedSetIterable iter X.env x = pure x := by intro _; rfl) (hs1 : ∀ env x, foldedSetIterable iter1 env x = pure x := by intro _ _; rfl) :
    PE X (.DictComp kx vx [⟨tg, iter, ifs, 0⟩, ⟨tg1, iter1, ifs1, 0⟩] scope pos) (tDc2 wi g tt wi1 g1 tt1 tk tv (own.map (·.2)) vs1) := by
  refine ⟨fun pins s σ H Q I h => ?_⟩
  have hfree : ∀ y ∈ scope.names, y.2 = .free → ∃ c, X.env.cells.lookup y.1 = some c := fun y hy e => (ok.free y hy e).elim (fun k => I.ok.has _ (.inl k)) fun k => I.ok.has _ (.inr k)
  rw [arm_eval_DictComp]
  refine wpAny_comprehension_free (use := none) rfl hs (closure_ok hfree) ok.kind (fun y hy e => by rw [ok.uniq y hy, e]) (thn (hi.run pins s σ H _ I h) fun xv s1 hx => thn hx fun itv s2 h2 => ?_)
  obtain ⟨it, fp, tn, J, H2, e, I2, T, st2, f2, q⟩ := h2
  subst e
  refine wpAny_newObj_type (newEnv_comp ?_)
  generalize hD : s2.heap.objs.size = D
  obtain ⟨W, ⟨m0, w0⟩, hl⟩ := q D (I2.hok.fresh (Nat.le_of_eq hD))
  have kp : ∀ b o, s2.heap.get? b = some o → (s2.heap.push { cls := .type "dict", data := .dict #[] }).get? b = some o := fun b o e => Heap.get?_push_of_some _ e
  generalize hs3 : ({ s2 with heap := s2.heap.push { cls := .type "dict", data := .dict #[] } } : Shared) = s3
  have h3 : s3.heap = s2.heap.push { cls := .type "dict", data := .dict #[] } := by rw [← hs3]
  have I3 : Inv X pins σ (upd H2 D (.dK [])) s3 := by
    rw [← hs3]
    refine I2.laid (t' := s2.toks) kp (Nat.le_of_eq hD) ?_
    rw [← hD]
    exact dk_empty s2.heap I2.big
  have f3 : ∀ b ∈ fp, FpOk X pins (upd H2 D (.dK [])) b ∧ b < s3.heap.objs.size := fun b hb => by
    obtain ⟨o, e, _⟩ := T.obj _ _ st2 b hb
    have lt := Heap.lt_size e
    refine ⟨⟨?_, (f2 b hb).2⟩, by rw [h3, Heap.size_push]; exact Nat.lt_succ_of_lt lt⟩
    rw [upd_ne (by rw [← hD]; exact Nat.ne_of_lt lt)]
    exact (f2 b hb).1
  have st3 : tn 0 s3.heap := T.keep _ _ _ st2 fun b _ o e => by rw [h3]; exact kp b o e
  have I4 := block_start I3 ok hN f3
  have st4 := T.keep _ _ (pushCells (s3.heap.push { cls := .type "dict", data := .dict #[] }) scope.names) st3 fun b _ o e => pushCells_keeps _ _ _ _ (Heap.get?_push_of_some _ e)
  have loop := loop_gen (Y := X.blk s3 (upd H2 D (.dK [])) scope (compEnvC scope (cellsFrom (s3.heap.objs.size + 1) scope.names (cloFrom X.env.cells scope.names [])) s3.heap.objs.size X.env) fp) (kx := kx) (vx := vx) (scope := scope) (pos := pos) (pins := [])
    (R := compPost (model X.prog X.w) X.A X.xe none (EP X pins σ Q) (.ref D) s3.heap.objs.size) rfl (out_eq kx vx tg iter tg1 iter1 ifs ifs1 scope pos (.ref it) D _) hc T (hg _ _ _ _ _) (ht _ _ _ _ _) hl (fun _ _ z => False.elim z)
    (out_run hc hs1 hv1 (fun _ _ z => z) (hi1 _ _ _ _ _) (hg1 _ _ _ _ _) (ht1 _ _ _ _ _) (hk _ _ _ _ _) (hv _ _ _ _ _))
    (fun σ' H' s' I' hn b hb => ⟨hn b hb, (I'.ok.exf b hb).1, I'.ok.exfs b hb, .inl hb, fun x c e => (I'.ok.exf b hb).2 x c e, fun p hp => absurd (show p ∈ ([] : List (Addr × Obj)) ++ [] from hp) (by simp)⟩)
    (fun H' s6 I6 qd => ?_) I4 st4 (fun b hb => (f3 b hb).1.1) w0
  · exact codeAny_compStart_dict loop (T.self X.A 0 _ _ _ st4 loop)
  · have I7 : Inv X pins σ H' s6 := I3.call' (ch := fp) I6.os I6.base I6.hok I6.bare fun b hb => ⟨(f3 b hb).1.2.2.2.1, (f3 b hb).1.2.1, (f3 b hb).1.2.2.2.2.1, (f3 b hb).1.2.2.2.2.2⟩
    have nC : H' s3.heap.objs.size = none := I6.free
    obtain ⟨m, hn, _⟩ := I6.loc
    obtain ⟨f0, f1, f2', f4, f5, f6⟩ := I3.fpOk (H' := H') (Nat.le_refl _) nC
    exact ⟨m, hn, fun h'' sb => ⟨.ref D, H', I7.turned (t' := s6.toks) (fun b o hb e => (sb.2 b hb).trans e) f0 f1 f4 f5 f6, rfl, qd⟩⟩
end
/-- a clause's turns over a walk -/
theorem turns_it {J : It} {n : Nat} {G : Hp → Prop} {Y : Nat → Hp → V → Hp → Prop} (wk : Walk J n G Y) {g : TG} {tt : TT} {vs : List Nat} {σ : L2.St} {tb : L2.St → Hp → (Hp → Prop) → Prop} {H1 : Hp} {Qd : Hp → Prop} (Pv : Nat → Hp → Prop) (h0 : Pv 0 H1) (hG : ∀ i H, i ≤ n → Pv i H → G H)
    (hs : ∀ i x H H', i < n → Pv i H → Y i H x H' → g x (wipe σ vs) H' fun σ2 H2 => wipe σ2 vs = wipe σ vs ∧ tt σ2 H2 fun b H3 => if b = true then tb σ2 H3 (Pv (i + 1)) else Pv (i + 1) H3) (hd : ∀ H, Pv n H → Qd H) :
    ∃ W : Nat → Nat → Hp → Prop, (∃ m, W 0 m H1) ∧ turns J g tt vs σ tb W Qd := by
  refine ⟨fun i m H => m + i = n ∧ Pv i H, ⟨n, rfl, h0⟩, fun i m H ⟨e, p⟩ => ?_⟩
  have q := hG i H (by omega) p
  match m, e with
  | 0, e =>
    obtain rfl : i = n := by omega
    exact .inl ⟨wk.stops H q, hd H p⟩
  | m + 1, e => exact .inr ⟨wk.goes i H (by omega) q, Pv (i + 1), fun H' p' => ⟨m, Nat.lt_succ_self m, by omega, p'⟩, fun x H' y => hs i x H H' (by omega) p (wk.yields i H x H' (by omega) q y)⟩
end DcTwo
/-! sorted(l) of a list of texts (fewer than 64), and of what is a list or a tuple of texts -/
namespace SortT
open PySem PySem.Spec PyProof.Rows L2
def rSortL (K : PySem.W.Frag) : List V → Hp → VK → Prop := fun xs H Q => ∃ (a : Addr) (zs : List Str), xs = [.ref a] ∧ SqL K H a (zs.map V.str) ∧ zs.length < 64 ∧ ∀ ys p, ys.Perm zs → sortedS ys = true → H p = none → Q (.ref p) (upd H p (.lst (ys.map V.str)))
theorem call_sortL {X : Cx} : CallR X (.builtin "sorted") (rSortL X.K) := by
  intro pins s σ H xs us Q I r h
  obtain ⟨a, zs, rfl, hs, h64, q⟩ := h
  obtain ⟨u, rfl, rx⟩ := vals1 r
  obtain rfl : u = Value.ref a := rx
  obtain ⟨its, rv, pl, hz⟩ := I.list hs
  have hS : StrsAre its zs := rv.strs
  have hal : its.length = zs.length := by
    have := rv.length
    rw [List.length_map] at this
    exact this.symm
  obtain ⟨⟨cls, dd, data, sl⟩, ho, hc, n, hd⟩ := pl.isList
  simp only at hc hd
  subst hc hd
  refine Calls.call_function_entry kind_sorted plain_sorted entry_sorted (args_sorted1 _) ?_
  unfold Builtin.«sorted»
  refine wpAny_bind (m := checkCount "sorted" 1 1 _) (wpAny_pure (wpAny_bind (wpAny_collect_seq (A := X.A.in1) a (.inl rfl) ho rfl rfl (fun h' hk => ?_) (by rw [List.size_toArray]; rw [← rv.length]; exact hz))))
  rw [List.toList_toArray]
  have I1 : Inv X pins σ H { s with heap := h' } := I.kept (t' := s.toks) hk
  refine wpAny_bind (wpAny_newList ?_ (by rw [hal, sizeLine_eq]; omega))
  have hoL : (h'.push (seqObj "list" its.toArray 0)).get? h'.objs.size = some (seqObj "list" its.toArray 0) := Heap.get?_push_size _ rfl
  show wpAny _ _ _ _ _ { s with heap := h'.push (seqObj "list" its.toArray 0) }
  refine wpAny_bind (wpAny_holding (wpAny_call_entry slot_list_sort ⟨_, hoL, rfl⟩ entry_list_sort
    (list_sort_treeK strKind_oneLt (s := { s with heap := h'.push (seqObj "list" its.toArray 0) }) hoL hS.keysOf (fun v₁ v₂ rest e => keyKind_strs (by rw [← e]; exact hS)) (by rw [hal]; exact h64) fun st' hp hs => ⟨_, rfl, ?_⟩) (args_list_sort _)))
  obtain ⟨ys, g1, g2, g3⟩ := sorted_out_str hS hp hs
  obtain ⟨e', he'⟩ := sortedHeap_at (vs := its) (out := (arrOf st').map (·.2)) hoL
  have hlen : (ys.map V.str).length ≤ sizeLine := by
    rw [List.length_map, g2.length_eq]
    exact Nat.le_trans (Nat.le_of_lt h64) (by decide)
  refine wpAny_pure ⟨_, rfl, .ref h'.objs.size, upd H h'.objs.size (.lst (ys.map V.str)), I1.laid (t' := s.toks) (fun b u e => ?_) (Nat.le_refl _) (show ObjOk X.prog X.w _ _ _ (.lst (ys.map V.str)) from ⟨hlen, ((arrOf st').map (·.2)).toList, e', vals_of_strs g1, by rw [Array.toArray_toList]; exact he'⟩), rfl, q ys _ g2 g3 (I1.hok.fresh (Nat.le_refl _))⟩
  have hb : b < h'.objs.size := Heap.lt_size e
  rw [sortedHeap_old (Nat.ne_of_lt hb) (by rw [size_push']; exact Nat.lt_succ_of_lt hb)]
  exact Heap.get?_push_of_some _ e
def rSortLT (K : PySem.W.Frag) : List V → Hp → VK → Prop := fun xs H Q => ∃ (a : Addr) (zs : List Str), xs = [.ref a] ∧ (SqL K H a (zs.map V.str) ∨ SqT K H a (zs.map V.str)) ∧ zs.length < 64 ∧ ∀ ys p, ys.Perm zs → sortedS ys = true → H p = none → Q (.ref p) (upd H p (.lst (ys.map V.str)))
theorem call_sortLT {X : Cx} : CallR X (.builtin "sorted") (rSortLT X.K) := by
  intro pins s σ H xs us Q I r h
  obtain ⟨a, zs, e, hs, h64, q⟩ := h
  rcases hs with hs | hs
  · exact call_sortL pins s σ H xs us Q I r ⟨a, zs, e, hs, h64, q⟩
  · exact call_sortT pins s σ H xs us Q I r ⟨a, zs, e, hs, h64, q⟩
end SortT
namespace Sj
open PySem L2 Sup StK Own Shw Exg Grd KepE
open NdefX (NF NScope ncx envF startF nscope_by)
open C8 (pss_cut tCut)
/-! Board.__init__, where all is well -/
abbrev sBoI : Stmt := inClass (top 23) 0
abbrev nBo : List Str := ["self", "frame", "blocks", "reason", "named", "alone", "block", "name"]
theorem scBoI : FnScope nBo ["self", "frame", "blocks"] (defScope sBoI) := ⟨rfl, rfl, rfl, by decide +kernel, rfl, by decide +kernel, by decide +kernel⟩
structure BoT (P : Program) (w : World) (K : PySem.W.Frag) (mg : Str → Option Value) (base : Heap) (ks : Kinds) (CF CI fI CB : Addr) : Prop where
  wrong : ∃ f fd, mg "wrong_blocks" = some (.ref f) ∧ PySem.W.keepIn K (.ref f) = true ∧ Binds K fd ["frame", "blocks"] [] ∧ FnOk P w K mg base CX0 4 f fd ["frame", "blocks"] (spWb K ks CF)
  mem : PropN P w K mg base 3 CF "members" (spMem ks CF)
  mI : mg "InvalidBoard" = some (.ref CI)
  ex : ExT P K mg CI "reason"
  iC : PySem.W.findIn K (.ref CI) "__init__" = some (some (.ref fI))
  tI : PySem.W.typeIn K (.ref fI) = some (.type "function")
  inv : ∃ fdI, Binds K fdI ["self", "reason"] [] ∧ FnOk P w K mg base CX0 1 fI fdI ["self", "reason"] (spInv K CI)
  sorted : mg "sorted" = none
  tuple : mg "tuple" = none
  cl : Cls K CB
  nF : NoAttr K CB "frame"
  nB : NoAttr K CB "_blocks"
  nH : NoAttr K CB "_homes"
/-- a board's attributes -/
def boF (f B D : Addr) : List (Str × V) := putF "_homes" (.ref D) (putF "_blocks" (.ref B) (putF "frame" (.ref f) []))
def tOne (K : PySem.W.Frag) : TE := tTup (tCons (tVar 7) tNil)
def tSrt (K : PySem.W.Frag) : TE := tCB (fun xs H Q => ∃ p ys, xs = [V.ref p] ∧ ((SqL K H p ys ∧ ∀ l, H l = none → Q (.ref l) (upd H l (.tup ys))) ∨ (SqT K H p ys ∧ Q (.ref p) H))) (tCons (tCB (SortT.rSortLT K) (tCons (tVar 6) tNil)) tNil)
/-- a board stands at o -/
def BoAt (H : Hp) (o CB f : Addr) (L : List (Addr × List Str)) : Prop := ∃ dx B D hs, H o = some (.ins CB dx (boF f B D)) ∧ H B = some (.tup (L.map fun x => V.ref x.1)) ∧ (∀ x ∈ L, H x.1 = some (.tup (strv x.2)) ∧ x.2 ≠ []) ∧ H D = some (.dK hs) ∧ ∀ x ∈ L, ∀ z ∈ x.2, valV hs (Sum.inr z) = some (.ref x.1)
/-- the blocks of a board: each in order, all in order, the elements that none names alone -/
def RowsOf (d : FrD) (Bl : List (Addr × List Str)) (L : List (Addr × List Str)) : Prop := ∃ ms Ss, Mem d ms ∧ Ss.length = Bl.length ∧ (∀ (i : Nat) (y : Addr × List Str) (z : List Str), Bl[i]? = some y → Ss[i]? = some z → z.Perm y.2 ∧ PyProof.Rows.sortedS z = true) ∧ (L.map (·.2)).Perm (Ss ++ (ms.filter fun z => decide (z ∉ allN Bl)).map fun z => [z]) ∧ (L.map (·.2)).Pairwise SortB.RLe
def spBoI (K : PySem.W.Frag) (ks : Kinds) (CF CB : Addr) : Sp := fun vs H Q E => ∃ (o dx f t : Addr) (d : FrD) (Bl : List (Addr × List Str)), vs = [.ref o, .ref f, .ref t] ∧ H o = some (.ins CB dx []) ∧ FrIs ks CF H f d ∧ H t = some (.tup (Bl.map fun x => V.ref x.1)) ∧ BlkAt H Bl ∧
  (∀ z ∈ allN Bl, z ∈ membZ d) ∧ (allN Bl).Nodup ∧ (membZ d).Nodup ∧ (allN Bl).length ≤ 60 ∧ (∀ x ∈ Bl, ¬ (("ground" : Str) ∈ x.2 ∧ ("power" : Str) ∈ x.2)) ∧ ∀ H' L, RowsOf d Bl L → BoAt H' o CB f L → But H H' o → Q .non H'
theorem FrIs.but {ks : Kinds} {CF CB o dx : Addr} {H H' : Hp} {a : Addr} {d : FrD} (h : FrIs ks CF H a d) (ho : H o = some (.ins CB dx [])) (s : But H H' o) : FrIs ks CF H' a d := by
  refine ⟨?_, fun r hr => ?_, h.nd, h.le, h.so⟩
  · obtain ⟨dy, D, h1, h2, h3⟩ := h.at_
    refine ⟨dy, D, s _ _ (fun e => ?_) h1, s _ _ (fun e => ?_) h2, h3⟩
    · rw [e, ho] at h1
      cases h1
    · rw [e, ho] at h2
      cases h2
  · obtain ⟨hc, dy, hl⟩ := h.ok r hr
    refine ⟨hc, dy, s _ _ (fun e => ?_) hl⟩
    rw [e, ho] at hl
    cases hl
theorem BlkAt.but {CB o dx : Addr} {H H' : Hp} {Bl : List (Addr × List Str)} (h : BlkAt H Bl) (ho : H o = some (.ins CB dx [])) (s : But H H' o) : BlkAt H' Bl := fun x hx => by
  refine ⟨(h x hx).1.imp (fun q => s _ _ (fun e => ?_) q) (fun q => s _ _ (fun e => ?_) q), (h x hx).2⟩ <;> (rw [e, ho] at q; cases q)
theorem allN_perm {L L' : List (Addr × List Str)} (h : L.Perm L') : (allN L).Perm (allN L') := h.flatMap_right _
theorem allN_rows : ∀ {S Bl : List (Addr × List Str)}, S.length = Bl.length → (∀ (j : Nat) (y z : Addr × List Str), Bl[j]? = some y → S[j]? = some z → z.2.Perm y.2 ∧ PyProof.Rows.sortedS z.2 = true) → (allN S).Perm (allN Bl)
  | [], [], _, _ => .refl _
  | [], _ :: _, h, _ => by cases h
  | _ :: _, [], h, _ => by cases h
  | x :: S, y :: Bl, h, hp => by
    show (x.2 ++ allN S).Perm (y.2 ++ allN Bl)
    exact ((hp 0 y x rfl rfl).1).append (allN_rows (Nat.succ.inj h) fun j y' z' e1 e2 => hp (j + 1) y' z' e1 e2)
theorem allN_ones : ∀ {A : List (Addr × List Str)} {F : List Str}, A.map (·.2) = F.map (fun z => [z]) → allN A = F
  | [], [], _ => rfl
  | [], _ :: _, h => by cases h
  | _ :: _, [], h => by cases h
  | x :: A, z :: F, h => by
    rw [List.map_cons, List.map_cons] at h
    injection h with h1 h2
    show x.2 ++ allN A = _
    rw [h1, allN_ones h2]
    rfl
section
variable {P : Program} {w : World} {K : PySem.W.Frag} {mg : Str → Option Value} {base : Heap}
theorem body_boI {CI fI CF CB f : Addr} {ks : Kinds} (T : BoT P w K mg base ks CF CI fI CB) (cdv : Value) (A : Around) (outer : List Env) (s : Shared) (H : Hp) (vs : List V) (Q : VK) (E : XK)
    (hr : Room 4 (A.deeper (PyProof.Rows.envOfC "Board.__init__" (defScope sBoI) s.heap.objs.size f cdv))) (h : spBoI K ks CF CB vs H Q E) :
    ∃ t, PSs (cxOf (L2.CX P w) P w K mg base nBo "Board.__init__" (defScope sBoI) f cdv A outer s H E) (defBody sBoI) t ∧ t { nx := fun _ H' => Q .non H', rt := Q } (start nBo vs) H := by
  obtain ⟨fdI, bI, GI⟩ := T.inv
  obtain ⟨fW, fdW, mW, kW, bW, GW⟩ := T.wrong
  have hr1 := hr.mono (show 2 ≤ 4 by decide)
  refine ⟨_, pss_cons (ps_set (i := 3) scBoI.nd rfl (Or.inl rfl) (pe_call GW hr rfl mW kW bW .nil pass0 (pa_cons (pv 1) (pa_cons (pv 2) pa_nil))))
      (pss_cons (ps_if (pt_cmpR op_notN (pv 3) pe_non (nomark _)) (pss_one (ps_raise rfl (takes_of rfl rfl rfl rfl) (pmk_oex T.ex.oex T.iC T.tI GI hr1 bI .nil pass0 rfl T.mI (pa_cons (pv 3) pa_nil)))) pss_nil)
      (pss_cons (ps_fld (pv 0) (pv 1) rfl)
      (pss_cons (ps_set (i := 4) scBoI.nd rfl (Or.inr rfl) (pe_lc2 (wi1 := iSeq K (tVar 6)) (te := tVar 7) (tt := tYes) (tt1 := tYes) (own := [("block", 6), ("name", 7)]) (vs1 := [7]) (g := gName 6) (g1 := gName 7) rfl scBoI.nd (pi_tup (pv 2)) (blkOk_by (N := nBo) (sc := defScope sBoI) (by decide +kernel)) (by decide)
          (fun _ _ _ _ _ => pg_name (i := 6) scBoI.nd rfl (Or.inl rfl)) (fun _ _ _ _ _ => pts_nil) (fun _ _ _ _ _ => pi_seq (pv 6)) (fun _ _ _ _ _ => pg_name (i := 7) scBoI.nd rfl (Or.inl rfl)) (fun _ _ _ _ _ => pts_nil) (fun _ _ _ _ _ => pv 7)))
      (pss_cons (ps_setLc (i := 5) (te := tOne K) (tt := tB (tOp (rIn K true) (tVar 7) (tVar 4))) (own := [("name", 7)]) (g := gName 7) rfl scBoI.nd rfl rfl (sw_true rfl rfl rfl (by decide +kernel)) (pi_tup (pe_propS (S := fun C => C = CF) (spP := fun _ => spMem ks CF) (pv 1) (fun C e => by rw [e]; exact T.mem) hr)) (blkOk_by (N := nBo) (sc := defScope sBoI) (by decide +kernel))
          (fun _ _ _ _ _ => pg_name (i := 7) scBoI.nd rfl (Or.inl rfl)) (fun _ _ _ _ _ => pts_one (pt_cmpR op_notIn_seq (pv 7) (pv 4) (by rfl))) (fun _ _ _ _ _ => pe_tup (pa_cons (pv 7) pa_nil)))
      (pss_cons (ps_fld (pv 0) (pe_callTy (T := "tuple") call_tuple_of (by rfl) T.tuple (by decide +kernel) (pa_cons (pe_callB SortB.call_sortedTT (by rfl) T.sorted (by decide +kernel) (pa_cons (pe_op op_cat
          (pe_lc (te := tSrt K) (tt := tYes) (own := [("block", 6)]) (g := gName 6) rfl scBoI.nd (pi_tup (pv 2)) (blkOk_by (N := nBo) (sc := defScope sBoI) (by decide +kernel)) (fun _ _ _ _ _ => pg_name (i := 6) scBoI.nd rfl (Or.inl rfl)) (fun _ _ _ _ _ => pts_nil)
            (fun _ _ _ _ _ => pe_callTy (T := "tuple") call_tuple_of (by rfl) T.tuple (by decide +kernel) (pa_cons (pe_callB SortT.call_sortLT (by rfl) T.sorted (by decide +kernel) (pa_cons (pv 6) pa_nil)) pa_nil))) (pv 5)) pa_nil)) pa_nil)) rfl)
      (pss_one (ps_fld (pv 0) (DcTwo.pe_dc2 (wi1 := iTup K (tVar 6)) (tk := tVar 7) (tv := tVar 6) (tt := tYes) (tt1 := tYes) (own := [("block", 6), ("name", 7)]) (vs1 := [7]) (g := gName 6) (g1 := gName 7) rfl scBoI.nd (pi_tup (pe_fld (pv 0) rfl)) (blkOk_by (N := nBo) (sc := defScope sBoI) (by decide +kernel)) (by decide)
          (fun _ _ _ _ _ => pg_name (i := 6) scBoI.nd rfl (Or.inl rfl)) (fun _ _ _ _ _ => pts_nil) (fun _ _ _ _ _ => pi_tup (pv 6)) (fun _ _ _ _ _ => pg_name (i := 7) scBoI.nd rfl (Or.inl rfl)) (fun _ _ _ _ _ => pts_nil) (fun _ _ _ _ _ => pv 7) (fun _ _ _ _ _ => pv 6)) rfl))))))), ?_⟩
  obtain ⟨o, dx, f, t, d, Bl, rfl, ho, hF, ht, hB, hm, hnd, hmn, hl, hgp, k⟩ := h
  refine ⟨_, rfl, _, rfl, f, t, d, Bl, rfl, hF, SqT.of ht, hB, hm, hnd, hl, hgp, fun H1 s1 => ?_⟩
  refine ⟨_, rfl, rfl, _, rfl, iteF ?_⟩
  refine ⟨_, rfl, _, rfl, o, CB, dx, [], rfl, s1 _ _ ho, T.cl, T.nF, by show 0 < 1000; decide, ?_⟩
  obtain ⟨H2, e2⟩ : ∃ H2, H2 = upd H1 o (.ins CB dx (putF "frame" (.ref f) [])) := ⟨_, rfl⟩
  rw [← e2]
  have b2 : But H H2 o := fun b u hb e => by rw [e2, upd_ne hb]; exact s1 _ _ e
  have o2 : H2 o = some (.ins CB dx (putF "frame" (.ref f) [])) := by rw [e2, upd_same]
  have nto : t ≠ o := fun e => by rw [e, ho] at ht; cases ht
  have ht2 : H2 t = some (.tup (Bl.map fun x => V.ref x.1)) := b2 _ _ nto ht
  have hF2 := hF.but ho b2
  have hB2 := hB.but ho b2
  have at_ : ∀ {i : Nat} {x : V}, (Bl.map fun x => V.ref x.1)[i]? = some x → ∃ y ∈ Bl, Bl[i]? = some y ∧ x = .ref y.1 := fun {i x} h => by
    rw [List.getElem?_map] at h
    cases e : Bl[i]? with
    | none => rw [e] at h; cases h
    | some y => rw [e] at h; exact ⟨y, List.mem_of_getElem? e, rfl, (Option.some.inj h).symm⟩
  -- named
  refine ⟨_, rfl, t, rfl, ⟨_, SqT.of ht2⟩, fun D1 hD1 => ?_⟩
  refine lc2_it (walk_tup (K := K) (a := t) (xs := Bl.map fun x => V.ref x.1)) (fun i H' => Same H2 H' ∧ H' D1 = some (.lst (strv (allN (Bl.take i))))) ⟨same_at hD1, upd_same⟩ (fun i H' _ p => SqT.of (p.1 _ _ ht2)) ?_ ?_
  · rintro i x Ho Ha hi ⟨sa, da⟩ ⟨rfl, hx⟩
    obtain ⟨y, hy, ey, rfl⟩ := at_ hx
    refine ⟨rfl, ?_⟩
    unfold tYes
    dsimp only
    rw [if_pos rfl]
    have hle : (allN (Bl.take i) ++ y.2).length ≤ 60 := by
      rw [← allN_snoc ey]
      refine Nat.le_trans ?_ hl
      have e : allN Bl = allN (Bl.take (i + 1)) ++ allN (Bl.drop (i + 1)) := by
        unfold allN
        rw [← List.flatMap_append, List.take_append_drop]
      rw [e, List.length_append]
      omega
    rw [List.length_append] at hle
    have hyl : (strv y.2).length = y.2.length := List.length_map _
    have turn : ∀ (j : Nat) (x : V) (Hc Hd : Hp), j < (strv y.2).length → (Same H2 Hc ∧ Hc D1 = some (.lst (strv (allN (Bl.take i) ++ y.2.take j)))) → (Hd = Hc ∧ (strv y.2)[j]? = some x) →
        gName 7 x (wipe ([some (V.ref o), some (.ref f), some (.ref t), some .non, none, none, some (.ref y.1), none] : L2.St) [7]) Hd fun σ3 H5 => wipe σ3 [7] = wipe ([some (V.ref o), some (.ref f), some (.ref t), some .non, none, none, some (.ref y.1), none] : L2.St) [7] ∧ tYes σ3 H5 fun b H6 =>
          if b = true then tVar 7 σ3 H6 fun z H7 => ∃ acc, H7 D1 = some (.lst acc) ∧ acc.length < sizeLine ∧ (Same H2 (upd H7 D1 (.lst (acc ++ [z]))) ∧ upd H7 D1 (.lst (acc ++ [z])) D1 = some (.lst (strv (allN (Bl.take i) ++ y.2.take (j + 1))))) else (Same H2 H6 ∧ H6 D1 = some (.lst (strv (allN (Bl.take i) ++ y.2.take (j + 1))))) := by
      rintro j x Hc Hd hj ⟨sc, dc⟩ ⟨rfl, hxj⟩
      rw [hyl] at hj
      have exj : (strv y.2)[j]? = some (.str y.2[j]) := by show (y.2.map V.str)[j]? = _; rw [List.getElem?_map, List.getElem?_eq_getElem hj]; rfl
      rw [exj] at hxj
      obtain rfl := Option.some.inj hxj
      refine ⟨rfl, ?_⟩
      unfold tYes
      dsimp only
      rw [if_pos rfl]
      refine ⟨_, rfl, _, dc, ?_, fun c u e => ?_, ?_⟩
      · unfold strv
        rw [List.length_map, List.length_append, List.length_take]
        exact Nat.lt_of_le_of_lt (show _ ≤ 60 by omega) (by decide)
      · rw [upd_ne (ne_of_none e hD1)]
        exact sc _ _ e
      · rw [upd_same, List.take_add_one, List.getElem?_eq_getElem hj, Option.toList_some, ← List.append_assoc]
        show _ = some (HO.lst (List.map V.str _))
        rw [List.map_append (l₁ := allN (Bl.take i) ++ y.2.take j)]
        rfl
    have d0 : Ha D1 = some (.lst (strv (allN (Bl.take i) ++ y.2.take 0))) := by
      rw [List.take_zero, List.append_nil]
      exact da
    have fin : ∀ Hc, (Same H2 Hc ∧ Hc D1 = some (.lst (strv (allN (Bl.take i) ++ y.2.take (strv y.2).length)))) → (Same H2 Hc ∧ Hc D1 = some (.lst (strv (allN (Bl.take (i + 1)))))) := fun Hc h => ⟨h.1, by
      have := h.2
      rw [hyl, List.take_length, ← allN_snoc ey] at this
      exact this⟩
    rcases (hB2 y hy).1 with q | q
    · exact ⟨_, rfl, y.1, rfl, .inl ⟨⟨_, SqL.of (sa _ _ q)⟩, in_it (walk_list (K := K) (a := y.1) (xs := strv y.2)) (fun j H' => Same H2 H' ∧ H' D1 = some (.lst (strv (allN (Bl.take i) ++ y.2.take j)))) ⟨sa, d0⟩ (fun j H' _ p => SqL.of (p.1 _ _ q)) turn fin⟩⟩
    · exact ⟨_, rfl, y.1, rfl, .inr ⟨⟨_, SqT.of (sa _ _ q)⟩, in_it (walk_tup (K := K) (a := y.1) (xs := strv y.2)) (fun j H' => Same H2 H' ∧ H' D1 = some (.lst (strv (allN (Bl.take i) ++ y.2.take j)))) ⟨sa, d0⟩ (fun j H' _ p => SqT.of (p.1 _ _ q)) turn fin⟩⟩
  rintro H3 ⟨s3, d3⟩
  have hBl : (Bl.map fun x => V.ref x.1).length = Bl.length := List.length_map _
  rw [hBl, List.take_length] at d3
  -- alone
  have hF3 := hF2.same s3
  obtain ⟨dxf, fsf, eaf⟩ := hF3.ins
  refine ⟨_, rfl, f, CF, dxf, fsf, rfl, eaf, rfl, f, d, rfl, hF3, fun ms p4 H4 hms hp4 hv4 s4 => ?_⟩
  refine ⟨p4, rfl, ⟨_, SqT.of hv4⟩, fun D2 hD2 => ?_⟩
  have hmsl : (strv ms).length = ms.length := List.length_map _
  have hms42 : ms.length ≤ 42 := by
    rw [hms.1.length_eq, List.length_append]
    have hn40 : (names d.ys).length ≤ 40 := by unfold names; rw [List.length_map]; exact hF.le
    have hr2 : (railsZ d.g d.r).length ≤ 2 := by unfold railsZ; cases d.g <;> cases d.r <;> decide
    omega
  have d3b : H4 D1 = some (.lst (strv (allN Bl))) := s4 _ _ d3
  refine lc_it (walk_tup (K := K) (a := p4) (xs := strv ms)) (fun i H' => Same H4 H' ∧ ∃ A : List (Addr × List Str), A.map (·.2) = ((ms.take i).filter fun z => decide (z ∉ allN Bl)).map (fun z => [z]) ∧ H' D2 = some (.lst (A.map fun x => V.ref x.1)) ∧ ∀ x ∈ A, H' x.1 = some (.tup (strv x.2))) ⟨same_at hD2, [], rfl, upd_same, fun x hx => by cases hx⟩ (fun i H' _ p => SqT.of (p.1 _ _ hv4)) ?_ ?_
  · rintro i x Ho Ha hi ⟨sa, B, hB1, da, hB2'⟩ ⟨rfl, hx⟩
    rw [hmsl] at hi
    have ex : (strv ms)[i]? = some (.str ms[i]) := by show (ms.map V.str)[i]? = _; rw [List.getElem?_map, List.getElem?_eq_getElem hi]; rfl
    rw [ex] at hx
    obtain rfl := Option.some.inj hx
    have hin : inV (.str ms[i]) (strv (allN Bl)) = decide (ms[i] ∈ allN Bl) := inV_strs _ _
    have hBlen : B.length ≤ i := by
      have := congrArg List.length hB1
      rw [List.length_map, List.length_map] at this
      rw [this]
      exact Nat.le_trans (List.length_filter_le _ _) (by rw [List.length_take]; omega)
    have etake : (ms.take (i + 1)).filter (fun z => decide (z ∉ allN Bl)) = (ms.take i).filter (fun z => decide (z ∉ allN Bl)) ++ if ms[i] ∈ allN Bl then [] else [ms[i]] := by
      rw [List.take_add_one, List.getElem?_eq_getElem hi, Option.toList_some, List.filter_append]
      congr 1
      by_cases q : ms[i] ∈ allN Bl
      · rw [if_pos q, List.filter_cons_of_neg (by simp [q])]; rfl
      · rw [if_neg q, List.filter_cons_of_pos (by simp [q])]; rfl
    refine ⟨rfl, ?_⟩
    by_cases q : ms[i] ∈ allN Bl
    · refine ⟨_, rfl, _, rfl, D1, strv (allN Bl), rfl, .inl (SqL.of (sa _ _ d3b)), rfl, flat_strs _, false, ?_, iteF ?_⟩
      · show V.bl (!inV _ _) = _
        rw [hin, decide_eq_true q]
        rfl
      · refine ⟨sa, B, ?_, da, hB2'⟩
        rw [etake, if_pos q, List.append_nil]
        exact hB1
    · refine ⟨_, rfl, _, rfl, D1, strv (allN Bl), rfl, .inl (SqL.of (sa _ _ d3b)), rfl, flat_strs _, true, ?_, iteT ?_⟩
      · show V.bl (!inV _ _) = _
        rw [hin, decide_eq_false q]
        rfl
      · refine ⟨_, rfl, by show 1 ≤ sizeLine; decide, fun p hp => ?_⟩
        have sp := same_at (o := .tup [V.str ms[i]]) hp
        have nD : D2 ≠ p := fun e => by rw [e, hp] at da; cases da
        refine ⟨_, sp _ _ da, ?_, fun c u e => ?_, B ++ [(p, [ms[i]])], ?_, ?_, fun x hx => ?_⟩
        · rw [List.length_map]
          exact Nat.lt_of_lt_of_le (show B.length < 60 by omega) (by decide)
        · rw [upd_ne (ne_of_none e hD2)]
          exact sp _ _ (sa _ _ e)
        · rw [etake, if_neg q, List.map_append, List.map_append, hB1]
          rfl
        · rw [upd_same, List.map_append]
          rfl
        · have nx : x.1 ≠ D2 := fun e => by
            rcases List.mem_append.mp hx with hx | hx
            · have := hB2' x hx
              rw [e, da] at this
              cases this
            · rw [List.mem_singleton.mp hx] at e
              exact nD e.symm
          rw [upd_ne nx]
          rcases List.mem_append.mp hx with hx | hx
          · exact sp _ _ (hB2' x hx)
          · rw [List.mem_singleton.mp hx]
            exact upd_same
  rintro H5 ⟨s5, A, hA1, d5, hA2⟩
  rw [hmsl, List.take_length] at hA1
  -- the blocks in order
  have s25 : Same H2 H5 := s3.trans (s4.trans s5)
  have ht5 := s25 _ _ ht2
  have hB5 := hB2.same s25
  have bl60 : Bl.length ≤ 60 := by
    have go : ∀ Bl : List (Addr × List Str), (∀ x ∈ Bl, x.2 ≠ []) → Bl.length ≤ (allN Bl).length := by
      intro Bl
      induction Bl with
      | nil => exact fun _ => Nat.le_refl _
      | cons x Bl ih =>
        intro h
        have h1 := ih fun y hy => h y (List.mem_cons_of_mem _ hy)
        have h2 : 0 < x.2.length := List.length_pos_iff.mpr (h x List.mem_cons_self)
        show Bl.length + 1 ≤ (x.2 ++ allN Bl).length
        rw [List.length_append]
        omega
    exact Nat.le_trans (go Bl fun x hx => (hB x hx).2) hl
  have yle : ∀ y ∈ Bl, y.2.length ≤ 60 := fun y hy => by
    obtain ⟨l1, l2, e⟩ := List.append_of_mem hy
    have : allN Bl = allN l1 ++ (y.2 ++ allN l2) := by rw [e]; unfold allN; rw [List.flatMap_append, List.flatMap_cons]
    rw [this, List.length_append, List.length_append] at hl
    omega
  refine ⟨_, rfl, t, rfl, ⟨_, SqT.of ht5⟩, fun D3 hD3 => ?_⟩
  refine lc_it (walk_tup (K := K) (a := t) (xs := Bl.map fun x => V.ref x.1)) (fun i H' => Same H5 H' ∧ ∃ S : List (Addr × List Str), S.length = i ∧ (∀ (j : Nat) (y z : Addr × List Str), Bl[j]? = some y → S[j]? = some z → z.2.Perm y.2 ∧ PyProof.Rows.sortedS z.2 = true) ∧ H' D3 = some (.lst (S.map fun x => V.ref x.1)) ∧ ∀ x ∈ S, H' x.1 = some (.tup (strv x.2))) ⟨same_at hD3, [], rfl, fun j y z _ e => by simp at e, upd_same, fun x hx => by cases hx⟩ (fun i H' _ p => SqT.of (p.1 _ _ ht5)) ?_ ?_
  · rintro i x Ho Ha hi ⟨sa, S, hS1, hS2, da, hS3⟩ ⟨rfl, hx⟩
    obtain ⟨y, hy, ey, rfl⟩ := at_ hx
    rw [hBl] at hi
    refine ⟨rfl, ?_⟩
    unfold tYes
    dsimp only
    rw [if_pos rfl]
    refine ⟨_, rfl, y.1, y.2, rfl, ((hB5.same sa) y hy).1.imp SqL.of SqT.of, Nat.lt_of_le_of_lt (yle y hy) (by decide), fun ys p hperm hso hp => ⟨p, ys.map V.str, rfl, .inl ⟨SqL.of upd_same, fun l hl' => ?_⟩⟩⟩
    have sp := same_at (o := .lst (ys.map V.str)) hp
    have sl := same_at (o := .tup (ys.map V.str)) hl'
    have sx := sp.trans sl
    have nD : D3 ≠ l := fun e => by rw [← e, sp _ _ da] at hl'; cases hl'
    refine ⟨_, sx _ _ da, ?_, fun c u e => ?_, S ++ [(l, ys)], ?_, fun j y' z ej ez => ?_, ?_, fun x hx => ?_⟩
    · rw [List.length_map, hS1]
      exact Nat.lt_of_lt_of_le (show i < 60 by omega) (by decide)
    · rw [upd_ne (ne_of_none e hD3)]
      exact sx _ _ (sa _ _ e)
    · rw [List.length_append, hS1]
      rfl
    · rcases Nat.lt_or_ge j S.length with hj | hj
      · rw [List.getElem?_append_left hj] at ez
        exact hS2 j y' z ej ez
      · rw [List.getElem?_append_right hj] at ez
        have ej0 : j - S.length = 0 := by
          rcases Nat.eq_zero_or_pos (j - S.length) with q | q
          · exact q
          · rw [List.getElem?_eq_none (by show 1 ≤ _; omega)] at ez
            cases ez
        have eji : j = i := by omega
        rw [ej0] at ez
        obtain rfl := Option.some.inj (show some (l, ys) = some z from ez)
        rw [eji, ey] at ej
        obtain rfl := Option.some.inj ej
        exact ⟨hperm, hso⟩
    · rw [upd_same, List.map_append]
      rfl
    · have nx : x.1 ≠ D3 := fun e => by
        rcases List.mem_append.mp hx with hx | hx
        · have := hS3 x hx
          rw [e, da] at this
          cases this
        · rw [List.mem_singleton.mp hx] at e
          exact nD e.symm
      rw [upd_ne nx]
      rcases List.mem_append.mp hx with hx | hx
      · exact sx _ _ (hS3 x hx)
      · rw [List.mem_singleton.mp hx]
        exact upd_same
  rintro H6 ⟨s6, S, hS1, hS2, d6, hS3⟩
  rw [hBl] at hS1
  have Sne : ∀ x ∈ S, x.2 ≠ [] := fun x hx e => by
    obtain ⟨j, hj, ej⟩ := List.getElem_of_mem hx
    have hj' : j < Bl.length := by omega
    have := (hS2 j Bl[j] x (List.getElem?_eq_getElem hj') (by rw [List.getElem?_eq_getElem hj, ej])).1
    rw [e] at this
    exact (hB _ (List.getElem_mem hj')).2 (List.nil_perm.mp this)
  have Ane : ∀ x ∈ A, x.2 ≠ [] := fun x hx e => by
    have : x.2 ∈ A.map (·.2) := List.mem_map.mpr ⟨x, hx, rfl⟩
    rw [hA1, e] at this
    obtain ⟨z, _, ez⟩ := List.mem_map.mp this
    cases ez
  have Ale : A.length ≤ 42 := by
    have := congrArg List.length hA1
    rw [List.length_map, List.length_map] at this
    rw [this]
    exact Nat.le_trans (List.length_filter_le _ _) hms42
  refine ⟨_, rfl, D3, D2, S.map fun x => V.ref x.1, A.map fun x => V.ref x.1, rfl, rfl, d6, s6 _ _ d5, ?_, fun D4 hD4 => ?_⟩
  · rw [List.length_map, List.length_map]
    exact Nat.le_trans (show S.length + A.length ≤ 102 by omega) (by decide)
  have s7 := same_at (o := .lst ((S.map fun x => V.ref x.1) ++ A.map fun x => V.ref x.1)) hD4
  refine ⟨D4, S ++ A, rfl, SqL.of (by rw [upd_same, List.map_append]), fun x hx => ?_, by rw [List.length_append]; omega, fun L p7 hL hLs hp7 => ?_⟩
  · rcases List.mem_append.mp hx with hx | hx
    · exact ⟨SqT.of (s7 _ _ (hS3 x hx)), Sne x hx⟩
    · exact ⟨SqT.of (s7 _ _ (s6 _ _ (hA2 x hx))), Ane x hx⟩
  have s8 := same_at (o := .lst (L.map fun x => V.ref x.1)) hp7
  refine ⟨p7, _, rfl, .inl ⟨SqL.of upd_same, fun B hB8 => ?_⟩⟩
  have s9 := same_at (o := .tup (L.map fun x => V.ref x.1)) hB8
  have s29 := s25.trans (((s6.trans s7).trans s8).trans s9)
  have s59 := ((s6.trans s7).trans s8).trans s9
  have p1 : (allN L).Perm (allN Bl ++ ms.filter fun z => decide (z ∉ allN Bl)) := by
    refine (allN_perm hL).trans ?_
    have e : allN (S ++ A) = allN S ++ allN A := List.flatMap_append
    rw [e, allN_ones hA1]
    exact (allN_rows hS1 hS2).append_right _
  have hLl102 : (allN L).length ≤ 102 := by
    rw [p1.length_eq, List.length_append]
    have := List.length_filter_le (fun z => decide (z ∉ allN Bl)) ms
    omega
  have hLn : (allN L).Nodup := by
    refine p1.nodup_iff.mpr (List.nodup_append.mpr ⟨hnd, ((hms.1.nodup_iff).mpr hmn).filter _, fun a ha b hb e => ?_⟩)
    have := (List.mem_filter.mp hb).2
    rw [← e] at this
    exact of_decide_eq_true this ha
  have Lat : ∀ x ∈ L, (upd (upd (upd H6 D4 (.lst ((S.map fun x => V.ref x.1) ++ A.map fun x => V.ref x.1))) p7 (.lst (L.map fun x => V.ref x.1))) B (.tup (L.map fun x => V.ref x.1))) x.1 = some (.tup (strv x.2)) ∧ x.2 ≠ [] := fun x hx => by
    have s69 := (s7.trans s8).trans s9
    rcases List.mem_append.mp (hL.mem_iff.mp hx) with hx | hx
    · exact ⟨s69 _ _ (hS3 x hx), Sne x hx⟩
    · exact ⟨s59 _ _ (hA2 x hx), Ane x hx⟩
  have hrows : RowsOf d Bl L := by
    refine ⟨ms, S.map (·.2), hms, by rw [List.length_map, hS1], fun i y z ey ez => ?_, ?_, hLs⟩
    · rw [List.getElem?_map] at ez
      cases q : S[i]? with
      | none => rw [q] at ez; cases ez
      | some x =>
        rw [q] at ez
        obtain rfl := Option.some.inj ez
        exact hS2 i y x ey q
    · have := hL.map (·.2)
      rw [List.map_append, hA1] at this
      exact this
  refine ⟨_, rfl, o, CB, dx, _, rfl, s29 _ _ o2, T.cl, T.nB, by show 1 < 1000; decide, ?_⟩
  have B9 : (upd (upd (upd H6 D4 (.lst ((S.map fun x => V.ref x.1) ++ A.map fun x => V.ref x.1))) p7 (.lst (L.map fun x => V.ref x.1))) B (.tup (L.map fun x => V.ref x.1))) B = some (.tup (L.map fun x => V.ref x.1)) := upd_same
  have o9 := s29 _ _ o2
  generalize (upd (upd (upd H6 D4 (.lst ((S.map fun x => V.ref x.1) ++ A.map fun x => V.ref x.1))) p7 (.lst (L.map fun x => V.ref x.1))) B (.tup (L.map fun x => V.ref x.1))) = H9 at s29 s59 Lat B9 o9 ⊢
  have nBo : B ≠ o := fun e => by rw [e, o9] at B9; cases B9
  obtain ⟨H10, e10⟩ : ∃ H10, H10 = upd H9 o (.ins CB dx (putF "_blocks" (.ref B) (putF "frame" (.ref f) []))) := ⟨_, rfl⟩
  rw [← e10]
  have o10 : H10 o = some (.ins CB dx (putF "_blocks" (.ref B) (putF "frame" (.ref f) []))) := by rw [e10, upd_same]
  have B10 : H10 B = some (.tup (L.map fun x => V.ref x.1)) := by rw [e10, upd_ne nBo]; exact B9
  have b10 : But H H10 o := fun b u hb e => by rw [e10, upd_ne hb]; exact s29 _ _ (b2 _ _ hb e)
  have L10 : ∀ x ∈ L, H10 x.1 = some (.tup (strv x.2)) ∧ x.2 ≠ [] := fun x hx => by
    have nx : x.1 ≠ o := fun e => by have := (Lat x hx).1; rw [e, o9] at this; cases this
    rw [e10, upd_ne nx]
    exact Lat x hx
  have hLl : (L.map fun x => V.ref x.1).length = L.length := List.length_map _
  refine ⟨_, rfl, o, CB, dx, _, _, rfl, o10, T.cl, T.nB, rfl, B, rfl, ⟨_, SqT.of B10⟩, fun D5 hD5 => ?_⟩
  have cut : ∀ {i : Nat} (hi : i < L.length), allN L = allN (L.take i) ++ (L[i].2 ++ allN (L.drop (i + 1))) := fun {i} hi => by
    have e : L = L.take i ++ (L[i] :: L.drop (i + 1)) := by rw [List.getElem_cons_drop, List.take_append_drop]
    have e2 : allN (L.take i ++ (L[i] :: L.drop (i + 1))) = allN (L.take i) ++ (L[i].2 ++ allN (L.drop (i + 1))) := by unfold allN; rw [List.flatMap_append, List.flatMap_cons]
    rw [← e2, ← e]
  refine DcTwo.turns_it (walk_tup (K := K) (a := B) (xs := L.map fun x => V.ref x.1)) (fun i H' => Same H10 H' ∧ ∃ hs, H' D5 = some (.dK hs) ∧ hs.length ≤ (allN (L.take i)).length ∧ ∀ x ∈ L.take i, ∀ z ∈ x.2, valV hs (Sum.inr z) = some (.ref x.1)) ⟨same_at hD5, [], upd_same, Nat.zero_le _, fun x hx => by cases hx⟩ (fun i H' _ p => SqT.of (p.1 _ _ B10)) ?_ ?_
  · rintro i x Ho Ha hi ⟨sa, hs, da, hsl, hsv⟩ ⟨rfl, hx⟩
    rw [hLl] at hi
    have ex : (L.map fun x => V.ref x.1)[i]? = some (.ref L[i].1) := by rw [List.getElem?_map, List.getElem?_eq_getElem hi]; rfl
    rw [ex] at hx
    obtain rfl := Option.some.inj hx
    refine ⟨rfl, ?_⟩
    unfold tYes
    dsimp only
    rw [if_pos rfl]
    have hrow := (L10 _ (List.getElem_mem hi)).1
    have hcut := cut hi
    have hnc := hLn
    rw [hcut] at hnc
    have hlc := hLl102
    rw [hcut, List.length_append, List.length_append] at hlc
    have hdis := (List.nodup_append.mp hnc).2.2
    have hzl : (strv L[i].2).length = L[i].2.length := List.length_map _
    have etk : L.take (i + 1) = L.take i ++ [L[i]] := by rw [List.take_add_one, List.getElem?_eq_getElem hi]; rfl
    refine ⟨_, rfl, L[i].1, rfl, ⟨_, SqT.of (sa _ _ hrow)⟩, ?_⟩
    refine DcTwo.turns_it (walk_tup (K := K) (a := L[i].1) (xs := strv L[i].2)) (fun j H' => Same H10 H' ∧ ∃ hs, H' D5 = some (.dK hs) ∧ hs.length ≤ (allN (L.take i)).length + j ∧ (∀ x ∈ L.take i, ∀ z ∈ x.2, valV hs (Sum.inr z) = some (.ref x.1)) ∧ ∀ z ∈ L[i].2.take j, valV hs (Sum.inr z) = some (.ref L[i].1)) ⟨sa, hs, da, hsl, hsv, fun z hz => by rw [List.take_zero] at hz; cases hz⟩ (fun j H' _ p => SqT.of (p.1 _ _ hrow)) ?_ ?_
    · rintro j x Hb Hc hj ⟨sb, gs, db, hgl, hg1, hg2⟩ ⟨rfl, hx⟩
      rw [hzl] at hj
      have exj : (strv L[i].2)[j]? = some (.str L[i].2[j]) := by show (L[i].2.map V.str)[j]? = _; rw [List.getElem?_map, List.getElem?_eq_getElem hj]; rfl
      rw [exj] at hx
      obtain rfl := Option.some.inj hx
      refine ⟨rfl, ?_⟩
      dsimp only
      rw [if_pos rfl]
      refine ⟨_, rfl, _, rfl, gs, Sum.inr L[i].2[j], rfl, db, ?_, fun c u e => ?_, _, upd_same, ?_, fun x hx z hz => ?_, fun z hz => ?_⟩
      · exact Nat.lt_of_lt_of_le (show gs.length < 1000 by omega) (by decide)
      · rw [upd_ne (ne_of_none e hD5)]
        exact sb _ _ e
      · have := length_putK gs (Sum.inr L[i].2[j]) (V.ref L[i].1)
        omega
      · rw [valV_put]
        have ne : ¬ (Sum.inr z : Key) = Sum.inr L[i].2[j] := fun q => by
          injection q with q
          exact hdis z (List.mem_flatMap.mpr ⟨x, hx, hz⟩) L[i].2[j] (List.mem_append_left _ (List.getElem_mem hj)) q
        rw [if_neg ne]
        exact hg1 x hx z hz
      · rw [valV_put]
        by_cases q : (Sum.inr z : Key) = Sum.inr L[i].2[j]
        · rw [if_pos q]
        · rw [if_neg q]
          rw [List.take_add_one, List.getElem?_eq_getElem hj] at hz
          rcases List.mem_append.mp hz with hz | hz
          · exact hg2 z hz
          · exact absurd (by rw [show z = L[i].2[j] from List.mem_singleton.mp hz]) q
    · rintro Hb ⟨sb, gs, db, hgl, hg1, hg2⟩
      rw [hzl] at hgl hg2
      rw [List.take_length] at hg2
      refine ⟨sb, gs, db, ?_, fun x hx z hz => ?_⟩
      · have e : allN (L.take (i + 1)) = allN (L.take i) ++ L[i].2 := allN_snoc (List.getElem?_eq_getElem hi)
        rw [e, List.length_append]
        exact hgl
      · rw [etk] at hx
        rcases List.mem_append.mp hx with hx | hx
        · exact hg1 x hx z hz
        · rw [List.mem_singleton.mp hx] at hz ⊢
          exact hg2 z hz
  rintro H11 ⟨s11, hs, d11, hsl, hsv⟩
  rw [hLl, List.take_length] at hsv
  have o11 := s11 _ _ o10
  refine ⟨_, rfl, o, CB, dx, _, rfl, o11, T.cl, T.nH, by show 2 < 1000; decide, ?_⟩
  have ne : ∀ {b : Addr} {u : HO}, H11 b = some u → (∀ C dy fs, u ≠ .ins C dy fs) → b ≠ o := fun {b u} e hu q => by
    rw [q, o11] at e
    exact hu _ _ _ (Option.some.inj e).symm
  refine k _ L hrows ⟨dx, B, D5, hs, upd_same, ?_, fun x hx => ⟨?_, (L10 x hx).2⟩, ?_, hsv⟩ fun b u hb e => ?_
  · rw [upd_ne nBo]
    exact s11 _ _ B10
  · have e := s11 _ _ (L10 x hx).1
    rw [upd_ne (ne e fun _ _ _ q => by cases q)]
    exact e
  · rw [upd_ne (ne d11 fun _ _ _ q => by cases q)]
    exact d11
  · rw [upd_ne hb]
    exact s11 _ _ (b10 _ _ hb e)
end
end Sj
namespace Sj
open PySem L2 Sup StK Own Shw Exg Grd KepE
open NdefX (NF NScope ncx envF startF nscope_by)
open C8 (pss_cut tCut)
/-! k09: _law_plain -/
/-- each block in order, all in order -/
def RowsP (Bl : List (Addr × List Str)) (R : List (List Str)) : Prop := ∃ Ss : List (List Str), Ss.length = Bl.length ∧ (∀ (i : Nat) (y : Addr × List Str) (z : List Str), Bl[i]? = some y → Ss[i]? = some z → z.Perm y.2 ∧ PyProof.Rows.sortedS z = true) ∧ R.Perm Ss ∧ R.Pairwise SortB.RLe
theorem RowsP.uniq {Bl : List (Addr × List Str)} {R R' : List (List Str)} (h : RowsP Bl R) (h' : RowsP Bl R') : R = R' := by
  obtain ⟨S, l1, e1, p1, w1⟩ := h
  obtain ⟨S', l2, e2, p2, w2⟩ := h'
  have : S = S' := by
    refine List.ext_getElem? fun j => ?_
    by_cases hj : j < Bl.length
    · have a1 := e1 j _ S[j] (List.getElem?_eq_getElem hj) (List.getElem?_eq_getElem (by omega))
      have a2 := e2 j _ S'[j] (List.getElem?_eq_getElem hj) (List.getElem?_eq_getElem (by omega))
      rw [List.getElem?_eq_getElem (by omega), List.getElem?_eq_getElem (by omega), OrdS.uniq (a1.1.trans a2.1.symm) a1.2 a2.2]
    · rw [List.getElem?_eq_none (by omega), List.getElem?_eq_none (by omega)]
  subst this
  exact SortB.rows_uniq (p1.trans p2.symm) w1 w2
end Sj
namespace Sj
open PySem L2 Sup StK Own Shw Exg Grd KepE
/-! a board is made -/
/-- what is asked of blocks that make a board of the frame -/
structure PartOf (ks : Kinds) (CF : Addr) (H : Hp) (f : Addr) (d : FrD) (Bl : List (Addr × List Str)) : Prop where
  fr : FrIs ks CF H f d
  at_ : BlkAt H Bl
  mem : ∀ z ∈ allN Bl, z ∈ membZ d
  nd : (allN Bl).Nodup
  mn : (membZ d).Nodup
  le : (allN Bl).length ≤ 60
  gp : ∀ x ∈ Bl, ¬ (("ground" : Str) ∈ x.2 ∧ ("power" : Str) ∈ x.2)
theorem PartOf.same {ks : Kinds} {CF : Addr} {H H' : Hp} {f : Addr} {d : FrD} {Bl : List (Addr × List Str)} (h : PartOf ks CF H f d Bl) (s : Same H H') : PartOf ks CF H' f d Bl := ⟨h.fr.same s, h.at_.same s, h.mem, h.nd, h.mn, h.le, h.gp⟩
theorem blk_le {Bl : List (Addr × List Str)} (h : ∀ x ∈ Bl, x.2 ≠ []) : Bl.length ≤ (allN Bl).length := by
  induction Bl with
  | nil => exact Nat.le_refl _
  | cons x Bl ih =>
    have h1 := ih fun y hy => h y (List.mem_cons_of_mem _ hy)
    have h2 : 0 < x.2.length := List.length_pos_iff.mpr (h x List.mem_cons_self)
    show Bl.length + 1 ≤ (x.2 ++ allN Bl).length
    rw [List.length_append]
    omega
end Sj
namespace Sj
open PySem L2 Sup StK Own Shw Exg Grd KepE
/-! k09: blocks put in order; the rows of a board whose blocks were drawn in some order, some single ones left out -/
def insZ (z : Str) : List Str → List Str
  | [] => [z]
  | y :: ys => if PySem.Spec.ltCps y.cps.toList z.cps.toList = true then y :: insZ z ys else z :: y :: ys
theorem insZ_perm (z : Str) : ∀ ys : List Str, (insZ z ys).Perm (z :: ys)
  | [] => List.Perm.refl _
  | y :: ys => by
    unfold insZ
    split
    · exact ((insZ_perm z ys).cons y).trans (List.Perm.swap _ _ _)
    · exact List.Perm.refl _
def srt (zs : List Str) : List Str := zs.foldr insZ []
theorem srt_perm : ∀ zs : List Str, (srt zs).Perm zs
  | [] => .nil
  | z :: zs => (insZ_perm z (srt zs)).trans ((srt_perm zs).cons z)
abbrev srtB (Bl : List (Addr × List Str)) : List (List Str) := Bl.map fun y => srt y.2
theorem allN_srt : ∀ Bl : List (Addr × List Str), ((srtB Bl).flatten).Perm (allN Bl)
  | [] => .nil
  | x :: Bl => by
    show (srt x.2 ++ (srtB Bl).flatten).Perm (x.2 ++ allN Bl)
    exact (srt_perm x.2).append (allN_srt Bl)
/-- the blocks Bl' are those of Bl in some order, but for single ones zs -/
def DrB (Bl Bl' : List (Addr × List Str)) (zs : List Str) : Prop := (srtB Bl' ++ zs.map fun z => [z]).Perm (srtB Bl)
theorem ones_flat : ∀ zs : List Str, (zs.map fun z => [z]).flatten = zs
  | [] => rfl
  | z :: zs => by
    show [z] ++ (zs.map fun z => [z]).flatten = _
    rw [ones_flat zs]
    rfl
theorem DrB.names {Bl Bl' : List (Addr × List Str)} {zs : List Str} (h : DrB Bl Bl' zs) : (allN Bl' ++ zs).Perm (allN Bl) := by
  have q := h.flatten
  rw [List.flatten_append, ones_flat] at q
  exact ((allN_srt Bl').symm.append_right zs).trans (q.trans (allN_srt Bl))
theorem DrB.row {Bl Bl' : List (Addr × List Str)} {zs : List Str} (h : DrB Bl Bl' zs) {y : Addr × List Str} (hy : y ∈ Bl') : ∃ x ∈ Bl, y.2.Perm x.2 := by
  have : srt y.2 ∈ srtB Bl := h.mem_iff.mp (List.mem_append_left _ (List.mem_map.mpr ⟨y, hy, rfl⟩))
  obtain ⟨x, hx, e⟩ := List.mem_map.mp this
  exact ⟨x, hx, (srt_perm y.2).symm.trans ((by rw [← e]; exact srt_perm x.2))⟩
end Sj
/-! C(e, .., *xs), C a class of the module or what a name holds -/
namespace MakeS
open PySem PySem.Spec PyProof.Rows L2 StX
section
variable {X : Cx} {CX : CXT} {k : Nat} {f C : Addr} {sp : Sp} {E : XK} {x : PySem.Str} {e : Expr} {es : List Expr} {tf : TE} {t : TA} {p pos : Pos}
def tMakeSV (C : Addr) (sp : Sp) (E : XK) (tf : TE) (t : TA) : TE := fun σ H Q => tf σ H fun c H0 => c = .ref C ∧ tMakeR C sp E t σ H0 Q
theorem pe_makeSV (M : Mk X.K C f) (F : FnR X.prog X.w X.K X.mg X.base CX k f sp) (hr : Room (k + 1) X.A) (hx : Passes CX X E) (hf : PE X (.Name x p) tf) (ha : PA X (e :: es) t)
    (he : starEach (e :: es) X.env = (false, eval e X.env) :: starEach es X.env := by rfl) (hst : (backTo pos (starEach es X.env)).any (·.1) = true := by rfl) : PE X (.Call (.Name x p) (e :: es) [] pos) (tMakeSV C sp E tf t) := by
  refine ⟨fun pins s σ H Q I h => ?_⟩
  refine wpAny_Call_Name_kw (thn (hf.run pins s σ H _ I h) fun u s1 ⟨c, H1, I1, rc, ec, q1⟩ => ?_)
  subst ec
  obtain rfl : u = Value.ref C := rc
  refine PySem.W.callWith_S2 (h₀ := X.base) I.ok.mod.kin M.kp (thn (ha.run pos pins s1 σ H1 _ I1 q1) fun us s2 ⟨vs, H2, I2, r, q⟩ => ⟨I2.kIn, ?_⟩) he hst
  exact run_makeR M F hr hx I2 r q
end
end MakeS
namespace Sj
open PySem L2 Sup StK Own Shw Exg Grd KepE
open NdefX (NF NScope ncx envF startF nscope_by)
open C8 (pss_cut tCut)
/-! Board.of -/
abbrev sBoO : Stmt := inClass (top 23) 1
structure BofT (P : Program) (w : World) (K : PySem.W.Frag) (mg : Str → Option Value) (base : Heap) (CI fI CB fB : Addr) : Prop where
  isi : mg "isinstance" = none
  list : mg "list" = none
  tuple : mg "tuple" = none
  mI : mg "InvalidBoard" = some (.ref CI)
  ex : ExT P K mg CI "reason"
  iC : PySem.W.findIn K (.ref CI) "__init__" = some (some (.ref fI))
  tI : PySem.W.typeIn K (.ref fI) = some (.type "function")
  inv : ∃ fdI, Binds K fdI ["self", "reason"] [] ∧ FnOk P w K mg base CX0 1 fI fdI ["self", "reason"] (spInv K CI)
  mkc : Mk K CB fB
  kt : PySem.W.kitAny K (.type "list") [.type "list", .type "tuple"] = some true
  kt2 : PySem.W.kitAny K (.type "tuple") [.type "list", .type "tuple"] = some true
section
variable {P : Program} {w : World} {K : PySem.W.Frag} {mg : Str → Option Value} {base : Heap}
theorem scBoO : FnScope ["cls", "frame", "blocks"] ["cls", "frame", "blocks"] (defScope sBoO) := ⟨rfl, rfl, rfl, by decide +kernel, rfl, by decide +kernel, by decide +kernel⟩
end
end Sj
/-! a lambda handed to a def, where it is known that nothing is being shown -/
namespace LamX
open PySem PySem.Spec PyProof.Rows L2
section
variable {X : Cx} {pins : List (Addr × Obj)} {τ : L2.St} {H HZ : Hp} {s sB : Shared}
abbrev lamQ (X : Cx) : Str := X.env.qual ++ "<lambda>"
abbrev lamO (X : Cx) (ar : Arguments) (e : Expr) (sc : Scope) (pm : Value) (c' : Addr) (ct : Value) : Obj := PySem.W.kla_obj "<lambda>" (lamQ X) ar e sc (cloFrom X.env.cells sc.names []) pm c' ct
/-- the lambda at f runs under B -/
theorem lam_runG {B : Around} {st : List Env} {E : XK} {ar : Arguments} {e : Expr} {sc : Scope} {k : Nat} {f c' : Addr} {pm ct : Value} {tb : TE} {Q : VK} (I : Inv X pins τ H s) (L : LamS X.env.scope sc) (at_ : sB.heap.get? f = some (lamO X ar e sc pm c' ct))
    (nb : bindArgs (PySem.W.kla_fn "<lambda>" (lamQ X) ar e sc (cloFrom X.env.cells sc.names []) pm (.ref c') ct) ⟨[], []⟩ = pure []) (rm : Room (k + 1) B) (e0 : Env0 X.prog X.w X.K X.mg X.base B st sB HZ) (un : Un (frs X.stack) [] H HZ s.heap sB.heap) (nl : sB.heap.NoLimit)
    (hC : ∃ (oc : Obj) (vs : Array Value) (t : Tok), sB.heap.get? c' = some oc ∧ oc.data = .fields vs ∧ vs[1]? = some (.str (lamQ X) t))
    (hb : Room k (B.deeper (lamEnv X sc sB.heap.objs.size f c')) → PE (lamCx X B st sB HZ E sc f c') e tb) (ht : tb τ HZ Q) :
    codeAny (model X.prog X.w) B (.call (.ref f) ⟨[], []⟩) (CR (L2.CX X.prog X.w) st X.prog X.w HZ sB Q E) sB := by
  obtain ⟨oc, vs, t, z1, z2, z3⟩ := hC
  refine PySem.W.kla_callFunE rm.depth at_ rfl L.co L.gen rfl ⟨c', oc, vs, t, rfl, z1, z2, z3⟩ ?_
  rw [nb]
  refine wpAny_pure (wpAny_newFunctionEnv (fun y hy => (L.own y hy).2) (fun y hy => nomatch hy) (fun h1 fresh same => ⟨nl.fresh _ same, ?_⟩) L.kind)
  have keep : ∀ b o, sB.heap.get? b = some o → h1.get? b = some o := by
    intro b o q
    exact same.extBut b o (Nat.ne_of_lt (Heap.lt_size q)) (Heap.get?_push_of_some _ q)
  have J : Inv (lamCx X B st sB HZ E sc f c') [] τ HZ _ := lam_start2 (tk := sB.toks + ([] : List (Str × Value)).length) I L e0 rm.hd un fresh keep
  show codeAny _ _ (.expr e (lamEnv X sc sB.heap.objs.size f c')) _ _
  refine PySem.W.kla_codeExpr (wpAny_mono ((hb (rm.deeper _)).run [] _ _ HZ Q J ht) ?_ fun _ _ z => z)
  rintro v s' ⟨x, H', J', rv, q⟩
  exact ⟨x, H', J'.os, J'.bare, J'.base, J'.hok, rv, q⟩
/-- what stands around the def that got the lambda -/
abbrev inG (X : Cx) (qg : Str) (sg : Scope) (n : Nat) (g : Addr) (cdg : Value) : Around := X.A.deeper (envOfC qg sg n g cdg)
/-- there, x() -/
theorem pe_actG {CXg : CXT} {Eg E : XK} {Ng : List Str} {qg a : Str} {sg sc : Scope} {g f c' : Addr} {cdg pm ct : Value} {ar : Arguments} {e : Expr} {k : Nat} {pn : List (Addr × Obj)} {xe : Value → Shared → Prop} {W : WX} {tb : TE} {p1 p2 : Pos}
    (I : Inv X pins τ H s) (L : LamS X.env.scope sc) (at_ : s.heap.get? f = some (lamO X ar e sc pm c' ct)) (new : H f = none) (nofr : f ∉ frs X.stack)
    (nb : bindArgs (PySem.W.kla_fn "<lambda>" (lamQ X) ar e sc (cloFrom X.env.cells sc.names []) pm (.ref c') ct) ⟨[], []⟩ = pure [])
    (tk : Takes ((cxOf CXg X.prog X.w X.K X.mg X.base Ng qg sg g cdg X.A X.stack s H Eg).tr pn xe) W) (hW : ∀ cls d σ' H', E cls d H' → W cls d σ' H') (rm : Room (k + 1) (inG X qg sg s.heap.objs.size g cdg))
    (hb : ∀ (st : List Env) (s1 : Shared) (H1 : Hp), Room k ((inG X qg sg s.heap.objs.size g cdg).deeper (lamEnv X sc s1.heap.objs.size f c')) → PE (lamCx X (inG X qg sg s.heap.objs.size g cdg) st s1 H1 E sc f c') e tb)
    (h0 : Ng[0]? = some a) (hv : Vis sg a) (hd : (a == ("__debug__" : Str)) = false) (hcd : (a == ("__classdict__" : Str)) = false) :
    PE ((cxOf CXg X.prog X.w X.K X.mg X.base Ng qg sg g cdg X.A X.stack s H Eg).tr pn xe) (.Call (.Name a p1) [] [] p2)
      (fun σ1 H1 Q => σ1[0]? = some (some (.ref f)) ∧ H1 c' = some (CodeO c' (lamQ X)) ∧ tb τ H1 Q) := by
  refine ⟨fun pins1 s1 σ1 H1 Q I1 ⟨hs, hc, ht⟩ => ?_⟩
  have rd := (pe_var (pos := p1) (i := 0) h0 hv hd hcd).run pins1 s1 σ1 H1 (fun v H2 => v = .ref f ∧ H2 = H1) I1 ⟨.ref f, hs, rfl, rfl⟩
  refine wpAny_Call_Name_kw (thn rd ?_)
  rintro u s2 ⟨v, H2, I2, r2, rfl, rfl⟩
  obtain rfl : u = Value.ref f := r2
  have at2 := I2.base.keep f _ at_ new nofr (fun z => nomatch (show f ∈ ([] : List Addr) from z))
  refine PySem.W.callWith_F0 ⟨_, _, _, _, at2⟩ ?_
  obtain ⟨hC, _, _⟩ := I2.hok c' _ hc
  have run := lam_runG (Q := Q) (E := E) I L at2 nb rm I2.env0 I2.base I2.nolimit hC (hb _ _ _) ht
  have pass : Passes (L2.CX X.prog X.w) ((cxOf CXg X.prog X.w X.K X.mg X.base Ng qg sg g cdg X.A X.stack s H Eg).tr pn xe) E := passes_call tk hW
  refine wpAny_call (codeAny_mono run fun r s3 q => ?_)
  match r, q with
  | .error z, q => exact pass pins1 σ1 _ s2 z s3 I2 q
  | .ok (.ret u), q => exact I2.after q
/-- x(lambda: e), nothing being shown -/
theorem pe_lamcallG {T : List (Addr × Str)} {TT : (XK → Hp → VK → Prop) → Hp → VK → Prop} {x a : Str} {g c P : Addr} {k : Nat} {pg ar : Arguments} {bg : List Stmt} {sg sc : Scope} {dV kV doc pm cdv ct oc : Value} {an od : Option Addr} {osl : Array (Option Value)} {Ng : List Str} {e : Expr} {t : XK → TE} {p lpos pos : Pos}
    (hg : Gl X x) (hm : X.mg x = some (.ref g)) (hk : PySem.W.keepIn X.K (.ref g) = true) (lk : X.K.lookup g = some ⟨oc, od, .func (PySem.W.fnOf x x pg bg sg dV kV doc pm an cdv ct), osl⟩) (hcg : PySem.W.codeIn X.K cdv x = true)
    (hb : L2.Binds X.K (PySem.W.fnOf x x pg bg sg dV kV doc pm an cdv ct) [a] []) (Sg : FnScope Ng [a] sg) (h0 : Ng[0]? = some a) (hva : Vis sg a) (hG : GivesTo X Ng x sg g cdv bg a (lamQ X) TT)
    (TB : TabB X.base X.mg c P) (hcode : X.env.code = .ref c) (hmT : (P, lamQ X) ∈ T) (hu : ∀ p ∈ T, p.1 = P → p.2 = lamQ X) (hgu : X.A.guards = some []) (rm : Room (k + 2) X.A) (L : LamS X.env.scope sc) (hdef : defaultsOf ar X.env = ([], []))
    (nb : ∀ (q : Str) (cl : List (Str × Addr)) (pm cv ct : Value), bindArgs (PySem.W.kla_fn "<lambda>" q ar e sc cl pm cv ct) ⟨[], []⟩ = pure [])
    (hbody : ∀ (B : Around) (st : List Env) (s1 : Shared) (H1 : Hp) (E : XK) (f c' : Addr), B.guards = some [] → Room k (B.deeper (lamEnv X sc s1.heap.objs.size f c')) → PE (lamCx X B st s1 H1 E sc f c') e (t E))
    (hdb : (x == ("__debug__" : Str)) = false := by decide) (hd : (a == ("__debug__" : Str)) = false := by decide) (hcd : (a == ("__classdict__" : Str)) = false := by decide) :
    PE X (.Call (.Name x p) [.Lambda ar e sc lpos] [] pos) (tLam T TT t) := by
  refine ⟨fun pins s σ H Q I ⟨hT, h⟩ => ?_⟩
  refine wpAny_Call_Name_kw (ld_glob I hg hm ?_ hdb)
  refine PySem.W.callWith_K (h₀ := X.base) I.ok.mod.kin hk ?_ (by rfl) (by rfl)
  have one : backTo pos (starEach [.Lambda ar e sc lpos] X.env) = (false, eval (.Lambda ar e sc lpos) X.env) :: backTo pos (starEach [] X.env) := rfl
  rw [one]
  refine Calls.spliced_cons (lam_make2 I TB hcode hmT hu hT hdef (L.has I.ok) ?_)
  intro f c' pm' ct' H1 s' I1 eN T1 at_ new nofr hco
  refine Calls.spliced_nil ⟨I1.kIn, ?_⟩
  have run : codeAny (model X.prog X.w) X.A (.call (.ref g) ⟨[.ref f], []⟩) (CR C8.CX0 X.stack X.prog X.w H1 s' Q C8.E0) s' := by
    refine run_ofS (N := Ng) (ps := [a]) (us := [.ref f]) (vs := [.ref f]) lk hcg Sg rm I1.env0 (hb s' [.ref f] I1.kIn rfl) (.cons rfl .nil) rfl fun rm' => ?_
    obtain ⟨t', ht', hq'⟩ := hG f c' s' H1 Q (fun E H' Q' => t E σ H' Q')
      (fun W pn xe E p1 p2 tk hW => pe_actG I1 L at_ new nofr (nb _ _ _ _ _) tk hW rm' (fun st s1 H1 r => hbody _ st s1 H1 E f c' hgu r) h0 hva hd hcd) hco (h H1 eN T1)
    exact ⟨t', ht'.nox, hq'⟩
  refine wpAny_call (codeAny_mono run fun r s2 q => ?_)
  match r, q with
  | .error z, q => exact (show False from q).elim
  | .ok (.ret u), q => exact I1.after q
end
end LamX
/-! a text among any values; any value among texts -/
namespace Own
open PySem PySem.Spec PyProof.Rows L2 Sup
section
variable {prog : Program} {w : World} {A : Around} {s : Shared}
theorem rc_dict_str {b : Str} {u : Tok} {a : Addr} {o : Obj} {es : Array DictEntry} {ep : Nat} (ho : s.heap.get? a = some o) (hx : o.ExactDict) (hd : o.data = .dict es ep) (hu : A.units < cLine) {E : Value → Shared → Prop} {Q : Value → Shared → Prop} (h : Q (.bool false) s) :
    wpAny (model prog w) A (richCompare .Eq (.ref a) (.str b u)) Q E s := by
  obtain ⟨cls, dd, data, sl⟩ := o
  obtain ⟨hc, hdd, hsl⟩ := hx
  simp only at hc hdd hsl hd
  subst hc hdd hsl hd
  have hT : s.TypeIs (.ref a) "dict" := ⟨_, ho, rfl⟩
  refine SeqAt.rc_eq_decline_or (k := false) hT (typeIs_str s b u) (by decide) F.sub_str_dict F.slot_dict_eq_refl F.slot_str_eq (fun Q' hq => ?_) (fun Q' hq => ?_) (fun _ hq => wpAny_of_eq (rfl : isSame (.ref a) (.str b u) = pure false) hq) (.inr hu) h
  · refine wpAny_call_entry F.slot_dict_eq_refl hT F.entry_dict_eq (show wpAny _ _ (Builtin.Dict.dictSlotArgs "__eq__" ⟨[.ref a, .str b u], []⟩ >>= _) _ _ s from ?_) (F.args_dict_eq_2 _ _)
    refine wpAny_bind ?_
    unfold Builtin.Dict.dictSlotArgs
    refine wpAny_bind (wpAny_notOrdered_dict hT (show wpAny _ _ (pure (Value.ref a, Value.str b u)) _ _ s from wpAny_pure ?_))
    refine wpAny_bind (wpAny_isInstance (T := "str") (b := false) (typeIs_str _ _ _) F.sub_str_dict ?_)
    first
      | exact wpAny_bind (wpAny_rule (wpAny_pure ⟨_, rfl, (fun x => nomatch x), hq⟩))
      | (obtain ⟨hp, gg, d, tk, os⟩ := s
         wp_walk
         exact ⟨_, rfl, hq⟩)
  · refine wpAny_call_entry F.slot_str_eq (typeIs_str _ _ _) F.entry_str_eq ?_ (F.args_str_eq_2 _ _)
    have isn : ∀ (A : Around) (E : Value → Shared → Prop) (R : Option Str → Shared → Prop), R none s → wpAny (model prog w) A (asStr? (.ref a)) R E s := fun A E R hR => by
      unfold asStr?
      exact wpAny_bind (wpAny_load ho (wpAny_pure hR))
    obtain ⟨hp, gg, d, tk, os⟩ := s
    wp_walk using isn
    exact ⟨_, rfl, hq⟩
theorem eqAt_dict_str {b : Str} {u : Tok} {a : Addr} {o : Obj} {es : Array DictEntry} {ep : Nat} (ho : s.heap.get? a = some o) (hx : o.ExactDict) (hd : o.data = .dict es ep) (hu : A.units < cLine) : SeqAt.EqAt A s (.ref a) (.str b u) false := fun prog w E Q h => by
  unfold eqBool
  refine wpAny_holding ?_
  refine wpAny_ite_split (fun hab => absurd (eq_of_beq hab) nofun) (fun _ => ?_)
  exact wpAny_bind (rc_dict_str ho hx hd hu (wpAny_truthy_bool h))
end
/-- a value that is a text, or is none: as InS tells -/
def isZ (z : Str) : PyData → Bool
  | .str y => y == z
  | _ => false
section
variable {X : Cx} {pins : List (Addr × Obj)} {σ : L2.St} {H : Hp} {s : Shared}
theorem dq_eqZ (I : Inv X pins σ H s) {A : Around} (hu : A.units < cLine) {v : V} {d : PyData} {u : Value} (h : Shw.Dq X.K H v d) (r : RelV v u) (z : Str) (tz : Tok) : SeqAt.EqAt A s u (.str z tz) (isTx z u) ∧ isTx z u = isZ z d := by
  cases h with
  | non =>
    obtain rfl : u = Value.none := r
    exact ⟨SeqAt.EqAt.none_str _ _, rfl⟩
  | bl b =>
    obtain rfl : u = Value.bool b := r
    exact ⟨SeqAt.EqAt.bool_str _ _ _, rfl⟩
  | int i =>
    obtain ⟨t, rfl⟩ := r
    exact ⟨SeqAt.EqAt.int_str _ _ _ _, rfl⟩
  | str x =>
    obtain ⟨t, rfl⟩ := r
    exact ⟨SeqAt.EqAt.str_str _ _ _ _, rfl⟩
  | @lst a xs ds n q _ =>
    obtain rfl : u = Value.ref a := r
    obtain ⟨it2, _, p2, _⟩ := I.list q
    exact ⟨SeqAt.EqAt.list_str _ _ p2.isList hu, rfl⟩
  | @tup a xs ds q _ =>
    obtain rfl : u = Value.ref a := r
    obtain ⟨it2, _, p2, _⟩ := I.tuple q
    exact ⟨SeqAt.EqAt.tuple_str _ _ p2 hu, rfl⟩
  | @dic a q =>
    obtain rfl : u = Value.ref a := r
    obtain ⟨_, _, vs, _, o, es, ep, ho, hx, hd, _⟩ := dk_rd I.hok q
    exact ⟨eqAt_dict_str ho hx hd hu, rfl⟩
  | @di1 a y i q =>
    obtain rfl : u = Value.ref a := r
    obtain ⟨_, _, vs, _, o, es, ep, ho, hx, hd, _⟩ := dk_rd I.hok q
    exact ⟨eqAt_dict_str ho hx hd hu, rfl⟩
theorem dqa_eqZ (I : Inv X pins σ H s) {A : Around} (hu : A.units < cLine) (z : Str) (tz : Tok) : ∀ {xs : List V} {ds : List PyData} {its : List Value}, Shw.DqAll X.K H xs ds → Vals xs its → (∀ y ∈ its, SeqAt.EqAt A s y (.str z tz) (isTx z y)) ∧ its.any (isTx z) = ds.any (isZ z)
  | [], _, _, .nil, .nil => ⟨(fun _ h => (by cases h)), rfl⟩
  | x :: xs, d :: ds, _ :: _, .cons h t, .cons r rs => by
    obtain ⟨h1, h2⟩ := dq_eqZ I hu h r z tz
    obtain ⟨h3, h4⟩ := dqa_eqZ I hu z tz t rs
    refine ⟨fun y hy => ?_, by rw [List.any_cons, List.any_cons, h2, h4]⟩
    rcases List.mem_cons.mp hy with rfl | hy
    · exact h1
    · exact h3 y hy
end
/-- a text in a list or a tuple of any values, or not in it -/
def rInZ (K : PySem.W.Frag) (neg : Bool) : R2 := fun x y H Q => ∃ (t : Addr) (z : Str) (xs : List V) (ds : List PyData), x = .str z ∧ y = .ref t ∧ (SqL K H t xs ∨ SqT K H t xs) ∧ Shw.DqAll K H xs ds ∧ Q (.bl (if neg then !ds.any (isZ z) else ds.any (isZ z))) H
theorem op_notInZ {X : Cx} (hu : X.A.in1.units < cLine) : OpR X (compareOp .NotIn) (rInZ X.K true) := by
  intro pins s σ H x y v u Q I rx ry h
  obtain ⟨t, z, xs, ds, rfl, rfl, ht, hd, q⟩ := h
  obtain rfl : u = Value.ref t := ry
  obtain ⟨tz, rfl⟩ := rx
  rcases ht with ht | ht
  · obtain ⟨its, r, pl, hz⟩ := I.list ht
    obtain ⟨h1, h2⟩ := dqa_eqZ I hu z tz hd r
    refine SeqAt.notIn_listAt (isTx z) pl.isList (fun y hy => h1 y (by simpa using hy)) ?_
    rw [show its.toArray.any (isTx z) = its.any (isTx z) by simp, h2]
    exact ⟨.bl _, H, I, rfl, q⟩
  · obtain ⟨its, r, pl, hz⟩ := I.tuple ht
    obtain ⟨h1, h2⟩ := dqa_eqZ I hu z tz hd r
    refine SeqAt.notIn_tupleAt (isTx z) pl (fun y hy => h1 y (by simpa using hy)) ?_
    rw [show its.toArray.any (isTx z) = its.any (isTx z) by simp, h2]
    exact ⟨.bl _, H, I, rfl, q⟩
/-- any value not in a list of texts -/
theorem dq_inZ {X : Cx} {pins : List (Addr × Obj)} {σ : L2.St} {H : Hp} {s : Shared} (I : Inv X pins σ H s) {A : Around} (hu : A.units < cLine) {v : V} {d : PyData} {u : Value} (h : Shw.Dq X.K H v d) (r : RelV v u) (z : Str) (tz : Tok) : SeqAt.EqAt A s (.str z tz) u (isZ z d) := by
  cases h with
  | non =>
    obtain rfl : u = Value.none := r
    exact SeqAt.EqAt.str_none _ _
  | bl b =>
    obtain rfl : u = Value.bool b := r
    exact SeqAt.EqAt.str_bool _ _ _
  | int i =>
    obtain ⟨t, rfl⟩ := r
    exact SeqAt.EqAt.str_int _ _ _ _
  | str x =>
    obtain ⟨t, rfl⟩ := r
    show SeqAt.EqAt _ _ _ _ (x == z)
    rw [show (x == z) = (z == x) from Bool.eq_iff_iff.mpr ⟨fun h => by rw [beq_iff_eq] at h ⊢; exact h.symm, fun h => by rw [beq_iff_eq] at h ⊢; exact h.symm⟩]
    exact SeqAt.EqAt.str_str _ _ _ _
  | @lst a xs ds n q _ =>
    obtain rfl : u = Value.ref a := r
    obtain ⟨it2, _, p2, _⟩ := I.list q
    exact SeqAt.EqAt.str_list _ _ p2.isList hu
  | @tup a xs ds q _ =>
    obtain rfl : u = Value.ref a := r
    obtain ⟨it2, _, p2, _⟩ := I.tuple q
    exact SeqAt.EqAt.str_tuple _ _ p2 hu
  | @dic a q =>
    obtain rfl : u = Value.ref a := r
    obtain ⟨_, _, vs, _, o, es, ep, ho, hx, hd, _⟩ := dk_rd I.hok q
    exact eqAt_str_dict ho hx hd hu
  | @di1 a y i q =>
    obtain rfl : u = Value.ref a := r
    obtain ⟨_, _, vs, _, o, es, ep, ho, hx, hd, _⟩ := dk_rd I.hok q
    exact eqAt_str_dict ho hx hd hu
/-- is it a text among these -/
def inL (legs : List Str) : PyData → Bool
  | .str z => decide (z ∈ legs)
  | _ => false
theorem inL_any (zs : List Str) (d : PyData) : zs.any (fun z => isZ z d) = inL zs d := by
  cases d with
  | str y =>
    refine Bool.eq_iff_iff.mpr ?_
    rw [List.any_eq_true]
    show (∃ x, x ∈ zs ∧ (y == x) = true) ↔ decide (y ∈ zs) = true
    rw [decide_eq_true_eq]
    exact ⟨fun ⟨x, h1, h2⟩ => by rw [beq_iff_eq] at h2; rw [h2]; exact h1, fun h => ⟨y, h, beq_self_eq_true y⟩⟩
  | _ =>
    rw [show inL zs _ = false from rfl]
    exact List.any_eq_false.mpr fun z _ h => by cases h
def rNotInM (K : PySem.W.Frag) : R2 := fun x y H Q => ∃ (t : Addr) (zs : List Str) (d : PyData), y = .ref t ∧ SqL K H t (zs.map V.str) ∧ Shw.Dq K H x d ∧ Q (.bl (!inL zs d)) H
def eZ (d : PyData) : Value → Bool
  | .str z _ => isZ z d
  | _ => false
theorem any_eZ (d : PyData) : ∀ {zs : List Str} {its : List Value}, Vals (zs.map V.str) its → its.any (eZ d) = zs.any fun z => isZ z d
  | [], _, .nil => rfl
  | y :: zs, _, .cons r t => by
    obtain ⟨tk, rfl⟩ := r
    rw [List.any_cons, List.any_cons, any_eZ d t]
    rfl
theorem op_notInM {X : Cx} (hu : X.A.in1.units < cLine) : OpR X (compareOp .NotIn) (rNotInM X.K) := by
  intro pins s σ H x y v u Q I rx ry h
  obtain ⟨t, zs, d, rfl, ht, hd, q⟩ := h
  obtain rfl : u = Value.ref t := ry
  obtain ⟨its, r, pl, hz⟩ := I.list ht
  refine SeqAt.notIn_listAt (eZ d) pl.isList (fun y hy => ?_) ?_
  · obtain ⟨z, _, tk, rfl⟩ := strs_of r y (by simpa using hy)
    exact dq_inZ I hu hd rx z tk
  · rw [show its.toArray.any (eZ d) = its.any (eZ d) by simp, any_eZ d r, inL_any]
    exact ⟨.bl _, H, I, rfl, q⟩
end Own
namespace Sj
open PySem L2 Sup StK Own Shw Exg Grd KepE
open NdefX (NF NScope ncx envF startF nscope_by)
open C8 (pss_cut tCut)
/-! k10: rows of any values, as data -/
mutual
/-- data that is tracked -/
inductive Dh (H : Hp) : V → PyData → Prop
  | non : Dh H .non .none
  | bl (b : Bool) : Dh H (.bl b) (.bool b)
  | int (i : Int) : Dh H (.int i) (.int i)
  | str (x : Str) : Dh H (.str x) (.str x)
  | lst {a : Addr} {xs : List V} {ds : List PyData} (n : sysModules ≠ a) (h : H a = some (.lst xs)) (r : DhAll H xs ds) : Dh H (.ref a) (.list ds)
  | tup {a : Addr} {xs : List V} {ds : List PyData} (h : H a = some (.tup xs)) (r : DhAll H xs ds) : Dh H (.ref a) (.tuple ds)
  | dic {a : Addr} (h : H a = some (.dK [])) : Dh H (.ref a) (.dict [])
  | di1 {a : Addr} {z : Str} {i : Int} (h : H a = some (.dK [(Sum.inr z, .int i)])) : Dh H (.ref a) (.dict [(.str z, .int i)])
inductive DhAll (H : Hp) : List V → List PyData → Prop
  | nil : DhAll H [] []
  | cons {v : V} {vs : List V} {d : PyData} {ds : List PyData} (h : Dh H v d) (r : DhAll H vs ds) : DhAll H (v :: vs) (d :: ds)
end
mutual
theorem Dh.dq {K : PySem.W.Frag} {H : Hp} : ∀ {x : V} {d : PyData}, Dh H x d → Dq K H x d
  | _, _, .non => .non
  | _, _, .bl b => .bl b
  | _, _, .int i => .int i
  | _, _, .str x => .str x
  | _, _, .lst n h r => .lst n (SqL.of h) (DhAll.dq r)
  | _, _, .tup h r => .tup (SqT.of h) (DhAll.dq r)
  | _, _, .dic h => .dic (.inl h)
  | _, _, .di1 h => .di1 (.inl h)
theorem DhAll.dq {K : PySem.W.Frag} {H : Hp} : ∀ {xs : List V} {ds : List PyData}, DhAll H xs ds → DqAll K H xs ds
  | _, _, .nil => .nil
  | _, _, .cons h r => .cons (Dh.dq h) (DhAll.dq r)
end
mutual
theorem Dh.keep {H H' : Hp} (s : ∀ a o, H a = some o → (∀ ps, o ≠ .tbl ps) → H' a = some o) : ∀ {x : V} {d : PyData}, Dh H x d → Dh H' x d
  | _, _, .non => .non
  | _, _, .bl b => .bl b
  | _, _, .int i => .int i
  | _, _, .str x => .str x
  | _, _, .lst n h r => .lst n (s _ _ h fun _ z => by cases z) (DhAll.keep s r)
  | _, _, .tup h r => .tup (s _ _ h fun _ z => by cases z) (DhAll.keep s r)
  | _, _, .dic h => .dic (s _ _ h fun _ z => by cases z)
  | _, _, .di1 h => .di1 (s _ _ h fun _ z => by cases z)
theorem DhAll.keep {H H' : Hp} (s : ∀ a o, H a = some o → (∀ ps, o ≠ .tbl ps) → H' a = some o) : ∀ {xs : List V} {ds : List PyData}, DhAll H xs ds → DhAll H' xs ds
  | _, _, .nil => .nil
  | _, _, .cons h r => .cons (Dh.keep s h) (DhAll.keep s r)
end
theorem Dh.same {H H' : Hp} {x : V} {d : PyData} (h : Dh H x d) (s : Same H H') : Dh H' x d := h.keep fun a o e _ => s a o e
theorem DhAll.same {H H' : Hp} {xs : List V} {ds : List PyData} (h : DhAll H xs ds) (s : Same H H') : DhAll H' xs ds := h.keep fun a o e _ => s a o e
theorem DhAll.append {H : Hp} : ∀ {xs ys : List V} {ds es : List PyData}, DhAll H xs ds → DhAll H ys es → DhAll H (xs ++ ys) (ds ++ es)
  | _, _, _, _, .nil, g => g
  | _, _, _, _, .cons h r, g => .cons h (r.append g)
theorem DhAll.take {H : Hp} : ∀ (k : Nat) {xs : List V} {ds : List PyData}, DhAll H xs ds → DhAll H (xs.take k) (ds.take k)
  | 0, _, _, _ => .nil
  | k + 1, _, _, .nil => .nil
  | k + 1, _, _, .cons h t => .cons h (DhAll.take k t)
theorem DhAll.drop {H : Hp} : ∀ (k : Nat) {xs : List V} {ds : List PyData}, DhAll H xs ds → DhAll H (xs.drop k) (ds.drop k)
  | 0, _, _, h => h
  | k + 1, _, _, .nil => .nil
  | k + 1, _, _, .cons h t => DhAll.drop k t
theorem DhAll.len {H : Hp} : ∀ {xs : List V} {ds : List PyData}, DhAll H xs ds → xs.length = ds.length
  | _, _, .nil => rfl
  | _, _, .cons _ t => congrArg (· + 1) (DhAll.len t)
theorem DhAll.at_ {H : Hp} : ∀ {xs : List V} {ds : List PyData} {i : Nat} {x : V}, DhAll H xs ds → xs[i]? = some x → ∃ d, ds[i]? = some d ∧ Dh H x d
  | _, _, 0, _, .cons h t, e => by
    obtain rfl := Option.some.inj e
    exact ⟨_, rfl, h⟩
  | _, _, i + 1, _, .cons h t, e => DhAll.at_ (i := i) t e
def isSeq : PyData → Option (List PyData)
  | .list ds => some ds
  | .tuple ds => some ds
  | _ => none
def itemsD (d : PyData) : List PyData := (isSeq d).getD []
def nmD : PyData → Str
  | .str z => z
  | _ => ""
def wholeD (rs : List PyData) : List PyData := rs.flatMap itemsD
/-- a block: a list or a tuple, and not empty -/
def okB (d : PyData) : Bool := match isSeq d with
  | some (_ :: _) => true
  | _ => false
def bothD (d : PyData) : Bool := (itemsD d).any (isZ "ground") && (itemsD d).any (isZ "power")
/-- the first reason why rows are no blocks of a board -/
def due10 (ms : List Str) (rs : List PyData) : V :=
  if rs.all okB = false then .str "blocks"
  else if (wholeD rs).all (inL ms) = false then .str "name"
  else if ((wholeD rs).map nmD).Nodup then (if rs.any bothD = true then .str "rails" else .non)
  else .str "twice"
/-- a row of any values that stands -/
def SqA (K : PySem.W.Frag) (H : Hp) (a : Addr) (xs : List V) : Prop := SqL K H a xs ∨ SqT K H a xs
theorem SqA.same {K : PySem.W.Frag} {H H' : Hp} {a : Addr} {xs : List V} (h : SqA K H a xs) (s : Same H H') : SqA K H' a xs := h.imp (fun q => SqL.ext q s) (fun q => SqT.ext q s)
def isStrD : PyData → Bool
  | .str _ => true
  | _ => false
def isLstD : PyData → Bool
  | .list _ => true
  | _ => false
def isTupD : PyData → Bool
  | .tuple _ => true
  | _ => false
theorem dq_ty {K : PySem.W.Frag} {H : Hp} {x : V} {d : PyData} (h : Dq K H x d) : ∃ t : String, TyX K H x (.type t) ∧ kitB t "str" = some (isStrD d) ∧ kitB t "list" = some (isLstD d) ∧ kitB t "tuple" = some (isTupD d) := by
  have go : ∀ (t : String) (b1 b2 b3 : Bool), kitB t "str" = some b1 → kitB t "list" = some b2 → kitB t "tuple" = some b3 → isStrD d = b1 → isLstD d = b2 → isTupD d = b3 → TyX K H x (.type t) → ∃ t : String, TyX K H x (.type t) ∧ kitB t "str" = some (isStrD d) ∧ kitB t "list" = some (isLstD d) ∧ kitB t "tuple" = some (isTupD d) := fun t b1 b2 b3 k1 k2 k3 e1 e2 e3 ty => ⟨t, ty, by rw [e1]; exact k1, by rw [e2]; exact k2, by rw [e3]; exact k3⟩
  cases h with
  | non => exact go "NoneType" false false false (by decide +kernel) (by decide +kernel) (by decide +kernel) rfl rfl rfl (.base .non)
  | bl b => exact go "bool" false false false (by decide +kernel) (by decide +kernel) (by decide +kernel) rfl rfl rfl (.base (.bl b))
  | int i => exact go "int" false false false (by decide +kernel) (by decide +kernel) (by decide +kernel) rfl rfl rfl (.base (.int i))
  | str x => exact go "str" true false false (by decide +kernel) (by decide +kernel) (by decide +kernel) rfl rfl rfl (.base (.str x))
  | lst n q r =>
    refine go "list" false true false (by decide +kernel) (by decide +kernel) (by decide +kernel) rfl rfl rfl ?_
    rcases q with (q | ⟨o, q⟩) | ⟨o, _, _, q, c, _⟩
    · exact .base (.lst q)
    · exact .base (.frz q)
    · exact .kList q c
  | tup q r =>
    refine go "tuple" false false true (by decide +kernel) (by decide +kernel) (by decide +kernel) rfl rfl rfl ?_
    rcases q with (q | ⟨o, q⟩) | ⟨o, _, _, q, c, _⟩
    · exact .base (.tup q)
    · exact .fTuple q
    · exact .kTuple q c
  | dic q =>
    refine go "dict" false false false (by decide +kernel) (by decide +kernel) (by decide +kernel) rfl rfl rfl ?_
    rcases q with q | ⟨o, q⟩
    · exact .base (.dK q)
    · exact .fDict q
  | di1 q =>
    refine go "dict" false false false (by decide +kernel) (by decide +kernel) (by decide +kernel) rfl rfl rfl ?_
    rcases q with q | ⟨o, q⟩
    · exact .base (.dK q)
    · exact .fDict q
theorem kit_two {K : PySem.W.Frag} {t : String} {b c : Bool} (h1 : kitB t "list" = some b) (h2 : kitB t "tuple" = some c) : PySem.W.kitAny K (.type t) [.type "list", .type "tuple"] = some (b || c) :=
  kitAny_cons (kit_ty h1) (fun e => by rw [e, Bool.false_or]; exact kitAny_cons (kit_ty h2) (fun e => by rw [e]; exact kitAny_nil) (fun e => e)) (fun e => by rw [e, Bool.true_or])
theorem isSeq_two (d : PyData) : (isSeq d).isSome = (isLstD d || isTupD d) := by cases d <;> rfl
/-- what a list or a tuple among data holds -/
theorem dh_seq {H : Hp} {x : V} {d : PyData} {es : List PyData} (h : Dh H x d) (e : isSeq d = some es) : ∃ a ys, x = .ref a ∧ (H a = some (.lst ys) ∨ H a = some (.tup ys)) ∧ DhAll H ys es := by
  cases h with
  | lst n q r =>
    obtain rfl := Option.some.inj e
    exact ⟨_, _, rfl, .inl q, r⟩
  | tup q r =>
    obtain rfl := Option.some.inj e
    exact ⟨_, _, rfl, .inr q, r⟩
  | _ => cases e
theorem okB_seq {d : PyData} (h : okB d = true) : ∃ es, isSeq d = some es ∧ es ≠ [] := by
  unfold okB at h
  split at h
  · rename_i e es h1
    exact ⟨_, h1, by simp⟩
  · cases h
/-- rows laid flat -/
theorem rows_flat {K : PySem.W.Frag} {H : Hp} : ∀ {xs : List V} {rs : List PyData}, DhAll H xs rs → (rs.all fun r => (isSeq r).isSome) = true → ∃ Bl : List (Addr × List V), xs = Bl.map (fun y => V.ref y.1) ∧ (∀ y ∈ Bl, SqA K H y.1 y.2) ∧ DhAll H (Bl.flatMap (·.2)) (wholeD rs) ∧ ∀ y ∈ Bl, y.2.length ≤ (wholeD rs).length
  | _, _, .nil, _ => ⟨[], rfl, (fun _ h => (by cases h)), .nil, (fun _ h => (by cases h))⟩
  | x :: xs, r :: rs, .cons h t, e => by
    rw [List.all_cons, Bool.and_eq_true] at e
    obtain ⟨es, he⟩ := Option.isSome_iff_exists.mp e.1
    obtain ⟨a, ys, rfl, hq, hy⟩ := dh_seq h he
    obtain ⟨Bl, e1, e2, e3, e4⟩ := rows_flat (K := K) t e.2
    have ew : wholeD (r :: rs) = es ++ wholeD rs := by
      show itemsD r ++ wholeD rs = _
      unfold itemsD
      rw [he]
      rfl
    have hyl := hy.len
    refine ⟨(a, ys) :: Bl, by rw [e1]; rfl, fun y hy' => ?_, ?_, fun y hy' => ?_⟩
    · rcases List.mem_cons.mp hy' with rfl | hy'
      · exact hq.imp SqL.of SqT.of
      · exact e2 y hy'
    · rw [ew]
      exact hy.append e3
    · rw [ew, List.length_append]
      rcases List.mem_cons.mp hy' with rfl | hy'
      · show ys.length ≤ _
        omega
      · have := e4 y hy'
        omega
/-- all of them names -/
theorem all_strs {H : Hp} {legs : List Str} : ∀ {xs : List V} {ws : List PyData}, DhAll H xs ws → ws.all (inL legs) = true → xs = strv (ws.map nmD) ∧ (∀ z ∈ ws.map nmD, z ∈ legs) ∧ ∀ z, ws.any (isZ z) = decide (z ∈ ws.map nmD)
  | _, _, .nil, _ => ⟨rfl, (fun _ h => (by cases h)), fun z => by simp⟩
  | x :: xs, w :: ws, .cons h t, e => by
    rw [List.all_cons, Bool.and_eq_true] at e
    obtain ⟨e1, e2, e3⟩ := all_strs t e.2
    cases h with
    | str z =>
      refine ⟨by rw [e1]; rfl, fun y hy => ?_, fun y => ?_⟩
      · rcases List.mem_cons.mp hy with rfl | hy
        · exact of_decide_eq_true e.1
        · exact e2 y hy
      · rw [List.any_cons, e3, List.map_cons]
        show ((z == y) || _) = decide (y ∈ z :: _)
        refine Bool.eq_iff_iff.mpr ?_
        rw [Bool.or_eq_true, decide_eq_true_eq, decide_eq_true_eq, List.mem_cons, beq_iff_eq]
        exact ⟨fun h => h.imp Eq.symm id, fun h => h.imp Eq.symm id⟩
    | _ => cases e.1
/-- rows of names: the blocks -/
theorem rows_txt {H : Hp} {legs : List Str} : ∀ {xs : List V} {rs : List PyData}, DhAll H xs rs → rs.all okB = true → (wholeD rs).all (inL legs) = true → ∃ Bl : List (Addr × List Str), xs = Bl.map (fun y => V.ref y.1) ∧ BlkAt H Bl ∧ allN Bl = (wholeD rs).map nmD ∧ rs.map bothD = Bl.map fun y => decide (("ground" : Str) ∈ y.2) && decide (("power" : Str) ∈ y.2)
  | _, _, .nil, _, _ => ⟨[], rfl, (fun _ h => (by cases h)), rfl, rfl⟩
  | x :: xs, r :: rs, .cons h t, e, e' => by
    rw [List.all_cons, Bool.and_eq_true] at e
    obtain ⟨es, he, hne⟩ := okB_seq e.1
    obtain ⟨a, ys, rfl, hq, hy⟩ := dh_seq h he
    have ei : itemsD r = es := by unfold itemsD; rw [he]; rfl
    have ew : wholeD (r :: rs) = es ++ wholeD rs := by
      show itemsD r ++ wholeD rs = _
      rw [ei]
    rw [ew, List.all_append, Bool.and_eq_true] at e'
    obtain ⟨Bl, e1, e2, e3, e4⟩ := rows_txt t e.2 e'.2
    obtain ⟨s1, s2, s3⟩ := all_strs hy e'.1
    subst s1
    refine ⟨(a, es.map nmD) :: Bl, by rw [e1]; rfl, fun y hy' => ?_, ?_, ?_⟩
    · rcases List.mem_cons.mp hy' with rfl | hy'
      · exact ⟨hq, fun z => hne (List.map_eq_nil_iff.mp z)⟩
      · exact e2 y hy'
    · show es.map nmD ++ allN Bl = _
      rw [ew, List.map_append, e3]
    · rw [List.map_cons, List.map_cons, e4]
      unfold bothD
      rw [ei, s3, s3]
/-- no name of an element -/
theorem not_mem {K : PySem.W.Frag} {H : Hp} {x : V} {d : PyData} {fd : FrD} (h : Dh H x d) (e : ∀ z, d ≠ .str z) : NotLeg K H x fd ∧ InS K H (railsZ fd.g fd.r) x false := by
  obtain ⟨t, ty, k1, _⟩ := dq_ty (h.dq (K := K))
  have nl : isStrD d = false → NotLeg K H x fd := fun q => .inr ⟨t, ty, by rw [k1, q]⟩
  cases h with
  | non => exact ⟨nl rfl, .non⟩
  | bl b => exact ⟨nl rfl, .bl b⟩
  | int i => exact ⟨nl rfl, .int i⟩
  | str z => exact absurd rfl (e z)
  | lst n q _ => exact ⟨nl rfl, .lst (SqL.of q)⟩
  | tup q _ => exact ⟨nl rfl, .tup (SqT.of q)⟩
  | dic q => exact ⟨nl rfl, .dic q⟩
  | di1 q => exact ⟨nl rfl, .dic q⟩
/-- each of a comprehension's items is a truth value -/
theorem lc_bl {J : It} {n : Nat} {G : Hp → Prop} {Y : Nat → Hp → V → Hp → Prop} (wk : Walk J n G Y) {g : TG} {te : TE} {vs : List Nat} {σ : L2.St} {H1 : Hp} {D : Addr} {Qd : Hp → Prop} (bs : List Bool) (hbs : bs.length = n) (hD : H1 D = none) (hn : n ≤ 2000) (hG : ∀ H', Same H1 H' → G H')
    (hs : ∀ i x H H' b (Q : VK), bs[i]? = some b → Same H1 H → Y i H x H' → (∀ H'', Same H' H'' → Q (.bl b) H'') → Same H H' ∧ g x (wipe σ vs) H' fun σ2 H2 => wipe σ2 vs = wipe σ vs ∧ te σ2 H2 Q) (hd : ∀ H, Same H1 H → H D = some (.lst (bs.map V.bl)) → Qd H)
    (hgm : ∀ x H' (R R' : L2.St → Hp → Prop), (∀ σ2 H2, R σ2 H2 → R' σ2 H2) → g x (wipe σ vs) H' R → g x (wipe σ vs) H' R') :
    ∃ W : Nat → Nat → Hp → Prop, (∃ m, W 0 m (upd H1 D (.lst []))) ∧ ∀ i m H, W i m H →
      (J.stop i H ∧ Qd H) ∨ (J.go i H ∧ ∃ Nx : Hp → Prop, (∀ H', Nx H' → ∃ m', m' < m ∧ W (i + 1) m' H') ∧ ∀ x H', J.yld i H x H' → g x (wipe σ vs) H' fun σ2 H2 => wipe σ2 vs = wipe σ vs ∧ tYes σ2 H2 fun b H3 =>
        if b = true then te σ2 H3 fun y H4 => ∃ acc, H4 D = some (.lst acc) ∧ acc.length < sizeLine ∧ Nx (upd H4 D (.lst (acc ++ [y]))) else Nx H3) := by
  subst hbs
  refine lc_it wk (fun i H' => Same H1 H' ∧ H' D = some (.lst ((bs.take i).map V.bl))) ⟨same_at hD, upd_same⟩ (fun i H' _ p => hG H' p.1) ?_ fun H p => hd H p.1 (by have := p.2; rwa [List.take_length] at this)
  rintro i x Ho Ha hi ⟨sa, da⟩ y
  have eb : bs[i]? = some bs[i] := List.getElem?_eq_getElem hi
  refine hgm x Ha _ _ (fun σ2 H2 h => ⟨h.1, ?_⟩) (hs i x Ho Ha bs[i] (fun y H4 => ∃ acc, H4 D = some (.lst acc) ∧ acc.length < sizeLine ∧ (Same H1 (upd H4 D (.lst (acc ++ [y]))) ∧ (upd H4 D (.lst (acc ++ [y]))) D = some (.lst ((bs.take (i + 1)).map V.bl)))) eb sa y fun H2 s2 => ?_).2
  · unfold tYes
    dsimp only
    rw [if_pos rfl]
    exact h.2
  · have sy := (hs i x Ho Ha bs[i] (fun _ _ => True) eb sa y fun _ _ => trivial).1
    refine ⟨_, s2 _ _ (sy _ _ da), ?_, fun c o e => ?_, ?_⟩
    · rw [List.length_map, List.length_take]
      exact Nat.lt_of_lt_of_le (show _ < 2001 by omega) (by decide)
    · rw [upd_ne (ne_of_none e hD)]
      exact s2 _ _ (sy _ _ (sa _ _ e))
    · rw [upd_same, List.take_add_one, eb, Option.toList_some, List.map_append]
      rfl
theorem gName_mn {v : Nat} {x : V} {σ : L2.St} {H' : Hp} (R R' : L2.St → Hp → Prop) (h : ∀ σ2 H2, R σ2 H2 → R' σ2 H2) (q : gName v x σ H' R) : gName v x σ H' R' := h _ _ q
/-- [x for row in rows for x in row] -/
theorem flatV_it {K : PySem.W.Frag} {t D : Addr} {Bl : List (Addr × List V)} {H1 : Hp} {σ : L2.St} {v u : Nat} {vs : List Nat} {Qd : Hp → Prop} (ht : SqT K H1 t (Bl.map fun y => V.ref y.1)) (hD : H1 D = none) (hB : ∀ y ∈ Bl, SqA K H1 y.1 y.2) (hl : (Bl.flatMap (·.2)).length ≤ 2000)
    (hw1 : ∀ x, wipe ((wipe σ vs).set v (some x)) vs = wipe σ vs) (hv1 : ∀ x, ((wipe σ vs).set v (some x))[v]? = some (some x)) (hw2 : ∀ x y, wipe ((wipe ((wipe σ vs).set v (some x)) [u]).set u (some y)) [u] = wipe ((wipe σ vs).set v (some x)) [u]) (hv2 : ∀ x y, ((wipe ((wipe σ vs).set v (some x)) [u]).set u (some y))[u]? = some (some y))
    (k : ∀ H', Same H1 H' → H' D = some (.lst (Bl.flatMap (·.2))) → Qd H') :
    ∃ W : Nat → Nat → Hp → Prop, (∃ m, W 0 m (upd H1 D (.lst []))) ∧ ∀ i m H, W i m H →
      ((Itt K t).stop i H ∧ Qd H) ∨ ((Itt K t).go i H ∧ ∃ Nx : Hp → Prop, (∀ H', Nx H' → ∃ m', m' < m ∧ W (i + 1) m' H') ∧ ∀ x H', (Itt K t).yld i H x H' → gName v x (wipe σ vs) H' fun σ2 H2 => wipe σ2 vs = wipe σ vs ∧ tYes σ2 H2 fun b H3 =>
        if b = true then iSeq K (tVar v) σ2 H3 fun J1 H4 => InLoop J1 (gName u) tYes (tVar u) [u] D σ2 H4 Nx else Nx H3) := by
  have hBl : (Bl.map fun y => V.ref y.1).length = Bl.length := List.length_map _
  have sn : ∀ {i : Nat} {y : Addr × List V}, Bl[i]? = some y → (Bl.take (i + 1)).flatMap (·.2) = (Bl.take i).flatMap (·.2) ++ y.2 := fun {i y} h => by
    rw [List.take_add_one, h, Option.toList_some, List.flatMap_append]
    simp
  refine lc2_it (walk_tup (K := K) (a := t) (xs := Bl.map fun y => V.ref y.1)) (fun i H' => Same H1 H' ∧ H' D = some (.lst ((Bl.take i).flatMap (·.2)))) ⟨same_at hD, upd_same⟩ (fun i H' _ p => SqT.ext ht p.1) ?_ ?_
  · rintro i x Ho Ha hi ⟨sa, da⟩ ⟨rfl, hx⟩
    rw [List.getElem?_map] at hx
    cases ey : Bl[i]? with
    | none => rw [ey] at hx; cases hx
    | some y =>
    rw [ey] at hx
    obtain rfl := Option.some.inj hx
    have hy := List.mem_of_getElem? ey
    refine ⟨hw1 _, ?_⟩
    unfold tYes
    dsimp only
    rw [if_pos rfl]
    have hle : ((Bl.take i).flatMap (·.2)).length + y.2.length ≤ 2000 := by
      rw [← List.length_append, ← sn ey]
      refine Nat.le_trans ?_ hl
      have e : Bl.flatMap (·.2) = (Bl.take (i + 1)).flatMap (·.2) ++ (Bl.drop (i + 1)).flatMap (·.2) := by rw [← List.flatMap_append, List.take_append_drop]
      rw [e, List.length_append]
      omega
    have turn : ∀ (j : Nat) (x : V) (Hc Hd : Hp), j < y.2.length → (Same H1 Hc ∧ Hc D = some (.lst ((Bl.take i).flatMap (·.2) ++ y.2.take j))) → (Hd = Hc ∧ y.2[j]? = some x) →
        gName u x (wipe ((wipe σ vs).set v (some (.ref y.1))) [u]) Hd fun σ3 H5 => wipe σ3 [u] = wipe ((wipe σ vs).set v (some (.ref y.1))) [u] ∧ tYes σ3 H5 fun b H6 =>
          if b = true then tVar u σ3 H6 fun z H7 => ∃ acc, H7 D = some (.lst acc) ∧ acc.length < sizeLine ∧ (Same H1 (upd H7 D (.lst (acc ++ [z]))) ∧ upd H7 D (.lst (acc ++ [z])) D = some (.lst ((Bl.take i).flatMap (·.2) ++ y.2.take (j + 1)))) else (Same H1 H6 ∧ H6 D = some (.lst ((Bl.take i).flatMap (·.2) ++ y.2.take (j + 1)))) := by
      rintro j x Hc Hd hj ⟨sc, dc⟩ ⟨rfl, hxj⟩
      refine ⟨hw2 _ _, ?_⟩
      unfold tYes
      dsimp only
      rw [if_pos rfl]
      refine ⟨_, hv2 _ _, _, dc, ?_, fun c o e => ?_, ?_⟩
      · rw [List.length_append, List.length_take]
        exact Nat.lt_of_le_of_lt (show _ ≤ 2000 by omega) (by decide)
      · rw [upd_ne (ne_of_none e hD)]
        exact sc _ _ e
      · rw [upd_same, List.take_add_one, hxj, Option.toList_some, ← List.append_assoc]
    have d0 : Ha D = some (.lst ((Bl.take i).flatMap (·.2) ++ y.2.take 0)) := by
      rw [List.take_zero, List.append_nil]
      exact da
    have fin : ∀ Hc, (Same H1 Hc ∧ Hc D = some (.lst ((Bl.take i).flatMap (·.2) ++ y.2.take y.2.length))) → (Same H1 Hc ∧ Hc D = some (.lst ((Bl.take (i + 1)).flatMap (·.2)))) := fun Hc h => ⟨h.1, by
      have := h.2
      rw [List.take_length, ← sn ey] at this
      exact this⟩
    rcases hB y hy with q | q
    · exact ⟨_, hv1 _, y.1, rfl, .inl ⟨⟨_, SqL.ext q sa⟩, in_it (walk_list (K := K) (a := y.1) (xs := y.2)) (fun j H' => Same H1 H' ∧ H' D = some (.lst ((Bl.take i).flatMap (·.2) ++ y.2.take j))) ⟨sa, d0⟩ (fun j H' _ p => SqL.ext q p.1) turn fin⟩⟩
    · exact ⟨_, hv1 _, y.1, rfl, .inr ⟨⟨_, SqT.ext q sa⟩, in_it (walk_tup (K := K) (a := y.1) (xs := y.2)) (fun j H' => Same H1 H' ∧ H' D = some (.lst ((Bl.take i).flatMap (·.2) ++ y.2.take j))) ⟨sa, d0⟩ (fun j H' _ p => SqT.ext q p.1) turn fin⟩⟩
  · rintro H2 ⟨s2, d2⟩
    rw [hBl, List.take_length] at d2
    exact k _ s2 d2
theorem fold_full : ∀ (xs ks : List Str), ks.Nodup → ks.length + xs.length ≤ (xs.foldl SetS.addT ks).length → (ks ++ xs).Nodup
  | [], ks, h, _ => by rw [List.append_nil]; exact h
  | x :: xs, ks, h, hl => by
    have hl' : ks.length + (xs.length + 1) ≤ (xs.foldl SetS.addT (SetS.addT ks x)).length := hl
    by_cases hx : x ∈ ks
    · have e : SetS.addT ks x = ks := if_pos hx
      rw [e] at hl'
      have := SetS.fold_len xs ks
      omega
    · have e : SetS.addT ks x = ks ++ [x] := if_neg hx
      rw [e] at hl'
      have n : (ks ++ [x]).Nodup := by
        rw [List.nodup_append]
        exact ⟨h, by simp, fun a ha b hb q => hx (by rw [← List.mem_singleton.mp hb, ← q]; exact ha)⟩
      have := fold_full xs (ks ++ [x]) n (by rw [List.length_append, List.length_singleton]; omega)
      rw [List.append_assoc] at this
      exact this
theorem nd_set (zs : List Str) : ((SetS.setL zs).length < zs.length) ↔ ¬ zs.Nodup := by
  constructor
  · intro h n
    rw [SetS.setL_same n] at h
    omega
  · intro h
    rcases Nat.lt_or_ge (SetS.setL zs).length zs.length with q | q
    · exact q
    · refine absurd (fold_full zs [] List.nodup_nil ?_) h
      rw [List.length_nil, Nat.zero_add]
      exact q
/-- [x for x in .. if test]: is it empty -/
theorem lc_sel {J : It} {n : Nat} {G : Hp → Prop} {Y : Nat → Hp → V → Hp → Prop} (wk : Walk J n G Y) {tt : TT} {v : Nat} {vs : List Nat} {σ : L2.St} {H1 : Hp} {D : Addr} {Qd : Hp → Prop} (bs : List Bool) (hbs : bs.length = n) (hD : H1 D = none) (hn : n ≤ 2000) (hG : ∀ H', Same H1 H' → G H')
    (hw : ∀ x, wipe ((wipe σ vs).set v (some x)) vs = wipe σ vs) (hv : ∀ x, ((wipe σ vs).set v (some x))[v]? = some (some x))
    (hs : ∀ i x H H' b, bs[i]? = some b → Same H1 H → Y i H x H' → Same H H' ∧ ∀ R : Bool → Hp → Prop, (∀ H'', Same H' H'' → R b H'') → tt ((wipe σ vs).set v (some x)) H' R) (hd : ∀ H ys, Same H1 H → H D = some (.lst ys) → ys.isEmpty = (!bs.any id) → Qd H) :
    ∃ W : Nat → Nat → Hp → Prop, (∃ m, W 0 m (upd H1 D (.lst []))) ∧ ∀ i m H, W i m H →
      (J.stop i H ∧ Qd H) ∨ (J.go i H ∧ ∃ Nx : Hp → Prop, (∀ H', Nx H' → ∃ m', m' < m ∧ W (i + 1) m' H') ∧ ∀ x H', J.yld i H x H' → gName v x (wipe σ vs) H' fun σ2 H2 => wipe σ2 vs = wipe σ vs ∧ tt σ2 H2 fun b H3 =>
        if b = true then tVar v σ2 H3 fun y H4 => ∃ acc, H4 D = some (.lst acc) ∧ acc.length < sizeLine ∧ Nx (upd H4 D (.lst (acc ++ [y]))) else Nx H3) := by
  subst hbs
  refine lc_it wk (fun i H' => Same H1 H' ∧ ∃ ys, H' D = some (.lst ys) ∧ ys.length ≤ i ∧ ys.isEmpty = !((bs.take i).any id)) ⟨same_at hD, [], upd_same, Nat.le_refl _, rfl⟩ (fun i H' _ p => hG H' p.1) ?_ fun H p => ?_
  · rintro i x Ho Ha hi ⟨sa, ys, da, hl, he⟩ y
    have eb : bs[i]? = some bs[i] := List.getElem?_eq_getElem hi
    obtain ⟨sy, rt⟩ := hs i x Ho Ha bs[i] eb sa y
    refine ⟨hw _, rt _ fun H3 s3 => ?_⟩
    have da3 := s3 _ _ (sy _ _ da)
    have s13 := (sa.trans sy).trans s3
    have et : (bs.take (i + 1)).any id = ((bs.take i).any id || bs[i]) := by rw [List.take_add_one, eb, Option.toList_some, List.any_append, List.any_cons, List.any_nil, Bool.or_false]; rfl
    cases e : bs[i] with
    | true =>
      rw [if_pos rfl]
      refine ⟨_, hv _, _, da3, Nat.lt_of_lt_of_le (show _ < 2001 by omega) (by decide), fun c o ec => ?_, _, upd_same, by rw [List.length_append, List.length_singleton]; omega, ?_⟩
      · rw [upd_ne (ne_of_none ec hD)]
        exact s13 _ _ ec
      · rw [et, e, Bool.or_true]
        cases ys <;> rfl
    | false =>
      rw [if_neg (by decide)]
      exact ⟨s13, ys, da3, by omega, by rw [et, e, Bool.or_false]; exact he⟩
  · obtain ⟨s, ys, h1, _, h3⟩ := p
    rw [List.take_length] at h3
    exact hd H ys s h1 h3
end Sj
namespace Sj
open PySem L2 Sup StK Own Shw Exg Grd KepE
open NdefX (NF NScope ncx envF startF nscope_by)
open C8 (pss_cut tCut)
/-! k10: wrong_blocks, with all its outcomes -/
def spWbA (ks : Kinds) (CF : Addr) : Sp := fun vs H Q _ => ∃ (f t : Addr) (d : FrD) (xs : List V) (rs : List PyData), vs = [.ref f, .ref t] ∧ FrIs ks CF H f d ∧ H t = some (.tup xs) ∧ DhAll H xs rs ∧ rs.length ≤ 100 ∧ (wholeD rs).length ≤ 900 ∧ ∀ H', Same H H' → Q (due10 (membZ d) rs) H'
theorem okB_is (d : PyData) : okB d = ((isSeq d).isSome && decide (0 < (itemsD d).length)) := by
  unfold okB itemsD
  cases h : isSeq d with
  | none => rfl
  | some es => cases es <;> rfl
section
variable {P : Program} {w : World} {K : PySem.W.Frag} {mg : Str → Option Value} {base : Heap}
theorem ok_wbA {f CF : Addr} {fd : FuncData} {ks : Kinds} (F : Fun K "wrong_blocks" "wrong_blocks" sWb f fd) (T : WbT P w K mg base ks CF) : FnOk P w K mg base CX0 4 f fd ["frame", "blocks"] (spWbA ks CF) := by
  obtain ⟨fM, fdM, mM, kM, bM, GM⟩ := T.ism
  refine F.ok scWb (fun vs H Q E h => ?_) (fun cdv A outer s H vs Q E hr h => ?_)
  · obtain ⟨f, t, d, xs, rs, rfl, _⟩ := h
    rfl
  · obtain ⟨f, t, d, xs, rs, rfl, hF, ht, hx, hrl, hwl, k⟩ := h
    refine ⟨_, pss_cons (ps_if (pt_not (pt_val (pe_callB (cr_all rfl) (by rfl) T.all (by decide +kernel) (pa_cons (pe_lc (te := teB1 K) (tt := tYes) (own := [("block", 3)]) (g := gName 3) rfl scWb.nd (pi_tup (pv 1)) (blkOk_by (N := nWb) (sc := defScope sWb) (by decide +kernel))
          (fun _ _ _ _ _ => pg_name (i := 3) scWb.nd rfl (Or.inl rfl)) (fun _ _ _ _ _ => pts_nil) (fun _ _ _ _ _ => pe_and (pe_callB call_isiT (by rfl) T.isi (by decide +kernel) (pa_cons (pv 3) (pa_cons (pe_tup (pa_cons (pe_bltn (by rfl) T.list (by decide +kernel) (v := .ty "list") rfl) (pa_cons (pe_bltn (by rfl) T.tuple (by decide +kernel) (v := .ty "tuple") rfl) pa_nil))) pa_nil)))
            (pe_one (pe_cmpR op_gt0 (pe_callB call_lenK (by rfl) T.len PySem.boot_len (pa_cons (pv 3) pa_nil)) pe_int (nomark _))))) pa_nil)))) (pss_one (ps_ret pe_str)) pss_nil)
      (pss_cons (ps_setLc2 (i := 2) (wi1 := iSeq K (tVar 3)) (te := tVar 4) (tt := tYes) (tt1 := tYes) (own := [("block", 3), ("name", 4)]) (vs1 := [4]) (g := gName 3) (g1 := gName 4) rfl scWb.nd rfl rfl (sw_true rfl rfl rfl (by decide +kernel)) (pi_tup (pv 1)) (blkOk_by (N := nWb) (sc := defScope sWb) (by decide +kernel)) (by decide)
          (fun _ _ _ _ _ => pg_name (i := 3) scWb.nd rfl (Or.inl rfl)) (fun _ _ _ _ _ => pts_nil) (fun _ _ _ _ _ => pi_seq (pv 3)) (fun _ _ _ _ _ => pg_name (i := 4) scWb.nd rfl (Or.inl rfl)) (fun _ _ _ _ _ => pts_nil) (fun _ _ _ _ _ => pv 4))
      (pss_cons (ps_if (pt_not (pt_val (pe_callB (cr_all rfl) (by rfl) T.all (by decide +kernel) (pa_cons (pe_lc (te := teB3 K ks CF) (tt := tYes) (own := [("name", 4)]) (g := gName 4) rfl scWb.nd (pi_list (pv 2)) (blkOk_by (N := nWb) (sc := defScope sWb) (by decide +kernel))
          (fun _ _ _ _ _ => pg_name (i := 4) scWb.nd rfl (Or.inl rfl)) (fun _ _ _ _ _ => pts_nil) (fun _ _ _ _ _ => pe_call GM hr rfl mM kM bM .nil pass0 (pa_cons (pv 0) (pa_cons (pv 4) pa_nil)))) pa_nil)))) (pss_one (ps_ret pe_str)) pss_nil)
      (pss_cons (ps_if (pt_cmpR op_lt (pe_callB (SetS.call_lenX) (by rfl) T.len PySem.boot_len (pa_cons (pe_callTy (T := "set") (SetS.call_setL rfl) (by rfl) T.set (by decide +kernel) (pa_cons (pv 2) pa_nil)) pa_nil)) (pe_callB call_len_seq (by rfl) T.len PySem.boot_len (pa_cons (pv 2) pa_nil)) (nomark _)) (pss_one (ps_ret pe_str)) pss_nil)
      (pss_cons (ps_if (pt_val (pe_callB (cr_any rfl) (by rfl) T.any (by decide +kernel) (pa_cons (pe_lc (te := teB5 K) (tt := tYes) (own := [("block", 3)]) (g := gName 3) rfl scWb.nd (pi_tup (pv 1)) (blkOk_by (N := nWb) (sc := defScope sWb) (by decide +kernel))
          (fun _ _ _ _ _ => pg_name (i := 3) scWb.nd rfl (Or.inl rfl)) (fun _ _ _ _ _ => pts_nil) (fun _ _ _ _ _ => pe_and (pe_cmpR op_in_seq pe_str (pv 3) (by rfl)) (pe_one (pe_cmpR op_in_seq pe_str (pv 3) (by rfl))))) pa_nil))) (pss_one (ps_ret pe_str)) pss_nil)
      (pss_one (ps_ret pe_non)))))), ?_⟩
    have hxl := hx.len
    have keq : ∀ v, due10 (membZ d) rs = v → ∀ H', Same H H' → Q v H' := fun v e H' s => by rw [← e]; exact k H' s
    clear k
    refine ⟨_, rfl, t, rfl, ⟨_, SqT.of ht⟩, fun D hD => ?_⟩
    refine lc_bl (walk_tup (K := K) (a := t) (xs := xs)) (rs.map okB) (by rw [List.length_map, hxl]) hD (by omega) (fun H' s => SqT.of (s _ _ ht)) ?_ ?_ (fun _ _ R R' h q => gName_mn R R' h q)
    · rintro i x Ho Ha b Q' eb sa ⟨rfl, hxi⟩ kq
      obtain ⟨r, er, hr'⟩ := hx.at_ hxi
      rw [List.getElem?_map, er] at eb
      obtain rfl := Option.some.inj eb
      have hra := hr'.same sa
      obtain ⟨ty, tyx, k1, k2, k3⟩ := dq_ty (hra.dq (K := K))
      refine ⟨Same.refl _, rfl, _, rfl, by show 2 ≤ sizeLine; decide, fun p hp => ?_⟩
      have sp := same_at (o := .tup [V.ty "list", .ty "tuple"]) hp
      refine ⟨x, p, [.ty "list", .ty "tuple"], .type ty, [.type "list", .type "tuple"], _, rfl, upd_same, .cons (.ty _) (.cons (.ty _) .nil), tyx_same tyx sp, kit_two k2 k3, _, rfl, ?_⟩
      rw [okB_is] at kq
      rw [← isSeq_two]
      cases e : isSeq r with
      | none =>
        rw [e] at kq
        exact iteF (kq _ sp)
      | some es =>
        obtain ⟨a, ys, rfl, hq, hy⟩ := dh_seq hra e
        have ei : itemsD r = es := by unfold itemsD; rw [e]; rfl
        refine iteT ⟨_, rfl, a, ys, rfl, hq.imp (fun q => SqL.of (sp _ _ q)) (fun q => SqT.of (sp _ _ q)), _, _, rfl, rfl, ?_⟩
        rw [e, ei] at kq
        show Q' (V.bl (decide ((0 : Int) < (ys.length : Int)))) _
        have hyl := hy.len
        rw [decide_eq_decide.mpr (show (0 : Int) < (ys.length : Int) ↔ 0 < es.length by omega)]
        exact kq _ sp
    intro H1 s1 d1
    refine ⟨D, _, rfl, SqL.of d1, ?_⟩
    have eall : (rs.map okB).all id = rs.all okB := by rw [List.all_map]; rfl
    rw [eall]
    cases hall : rs.all okB with
    | false => exact ⟨_, rfl, iteT (keq _ (by unfold due10; rw [if_pos hall]) _ s1)⟩
    | true =>
    have due1 : due10 (membZ d) rs = if (wholeD rs).all (inL (membZ d)) = false then .str "name" else if ((wholeD rs).map nmD).Nodup then (if rs.any bothD = true then .str "rails" else .non) else .str "twice" := by
      unfold due10
      rw [if_neg (by rw [hall]; decide)]
    rw [due1] at keq
    refine ⟨_, rfl, iteF ?_⟩
    have hall' : (rs.all fun r => (isSeq r).isSome) = true := List.all_eq_true.mpr fun r hr' => by
      obtain ⟨es, he, _⟩ := okB_seq (List.all_eq_true.mp hall r hr')
      rw [he]
      rfl
    obtain ⟨Bl, exs, hB, hW, _⟩ := rows_flat (K := K) (hx.same s1) hall'
    have ht1 := s1 _ _ ht
    rw [exs] at ht1
    have hwl2 := hW.len
    refine ⟨_, rfl, t, rfl, ⟨_, SqT.of ht1⟩, fun D2 hD2 => flatV_it (SqT.of ht1) hD2 hB (by omega) (fun x => rfl) (fun x => rfl) (fun x y => rfl) (fun x y => rfl) fun H2 s2 d2 => ?_⟩
    have hF2 := hF.same (s1.trans s2)
    have hW2 := hW.same s2
    obtain ⟨ns, ens⟩ : ∃ ns, ns = Bl.flatMap (·.2) := ⟨_, rfl⟩
    rw [← ens] at hwl2 d2 hW2
    -- names
    refine ⟨_, rfl, D2, rfl, ⟨_, SqL.of d2⟩, fun D3 hD3 => ?_⟩
    refine lc_bl (walk_list (K := K) (a := D2) (xs := ns)) ((wholeD rs).map (inL (membZ d))) (by rw [List.length_map, hwl2]) hD3 (by omega) (fun H' s => SqL.ext (SqL.of d2) s) ?_ ?_ (fun _ _ R R' h q => gName_mn R R' h q)
    · rintro i x Ho Ha b Q' eb sa ⟨rfl, hxi⟩ kq
      obtain ⟨r, er, hr'⟩ := hW2.at_ hxi
      rw [List.getElem?_map, er] at eb
      obtain rfl := Option.some.inj eb
      have hra := hr'.same sa
      refine ⟨Same.refl _, rfl, _, rfl, _, rfl, f, d, x, rfl, hF2.same sa, ?_⟩
      cases hra with
      | str z => exact .inl ⟨z, rfl, fun H' s => kq _ s⟩
      | non => exact .inr ⟨(not_mem .non (fun z e => by cases e)).1, (not_mem (fd := d) .non (fun z e => by cases e)).2, fun H' s => kq _ s⟩
      | bl b => exact .inr ⟨(not_mem (.bl b) (fun z e => by cases e)).1, (not_mem (fd := d) (.bl b) (fun z e => by cases e)).2, fun H' s => kq _ s⟩
      | int j => exact .inr ⟨(not_mem (.int j) (fun z e => by cases e)).1, (not_mem (fd := d) (.int j) (fun z e => by cases e)).2, fun H' s => kq _ s⟩
      | lst n h r => exact .inr ⟨(not_mem (.lst n h r) (fun z e => by cases e)).1, (not_mem (fd := d) (.lst n h r) (fun z e => by cases e)).2, fun H' s => kq _ s⟩
      | tup h r => exact .inr ⟨(not_mem (.tup h r) (fun z e => by cases e)).1, (not_mem (fd := d) (.tup h r) (fun z e => by cases e)).2, fun H' s => kq _ s⟩
      | dic h => exact .inr ⟨(not_mem (.dic h) (fun z e => by cases e)).1, (not_mem (fd := d) (.dic h) (fun z e => by cases e)).2, fun H' s => kq _ s⟩
      | di1 h => exact .inr ⟨(not_mem (.di1 h) (fun z e => by cases e)).1, (not_mem (fd := d) (.di1 h) (fun z e => by cases e)).2, fun H' s => kq _ s⟩
    intro H3 s3 d3
    refine ⟨D3, _, rfl, SqL.of d3, ?_⟩
    have eall2 : ((wholeD rs).map (inL (membZ d))).all id = (wholeD rs).all (inL (membZ d)) := by rw [List.all_map]; rfl
    rw [eall2]
    have s03 := s1.trans (s2.trans s3)
    cases hall2 : (wholeD rs).all (inL (membZ d)) with
    | false => exact ⟨_, rfl, iteT (keq _ (by rw [if_pos hall2]) _ s03)⟩
    | true =>
    rw [if_neg (by rw [hall2]; decide)] at keq
    refine ⟨_, rfl, iteF ?_⟩
    -- no name twice
    obtain ⟨e1, _, _⟩ := all_strs hW2 hall2
    obtain ⟨zs, ezs⟩ : ∃ zs, zs = (wholeD rs).map nmD := ⟨_, rfl⟩
    have hzl : zs.length = (wholeD rs).length := by rw [ezs, List.length_map]
    rw [← ezs] at e1 keq
    subst e1
    have nl : (strv zs).length = zs.length := List.length_map _
    have d2b := s3 _ _ d2
    refine ⟨_, rfl, D2, zs, rfl, SqL.of d2b, by omega, fun p hp' => ?_⟩
    have sp := same_at (o := SetS.SetX w p (SetS.setL zs)) hp'
    refine ⟨p, SetS.setL zs, rfl, upd_same, _, rfl, D2, strv zs, rfl, .inl (SqL.of (sp _ _ d2b)), _, _, rfl, rfl, _, rfl, ?_⟩
    rw [nl]
    have s04 := s03.trans sp
    by_cases hnd : zs.Nodup
    · rw [if_pos hnd] at keq
      rw [decide_eq_false (show ¬ ((SetS.setL zs).length : Int) < (zs.length : Int) by rw [SetS.setL_same hnd]; exact Int.lt_irrefl _)]
      refine iteF ?_
      -- rails
      obtain ⟨Tl, ext, hBT, _, hbt⟩ := rows_txt (hx.same s04) hall hall2
      have htl := congrArg List.length ext
      rw [List.length_map] at htl
      have ht4 := s04 _ _ ht
      refine ⟨_, rfl, t, rfl, ⟨_, SqT.of ht4⟩, fun D4 hD4 => ?_⟩
      refine lc_bl (walk_tup (K := K) (a := t) (xs := xs)) (rs.map bothD) (by rw [List.length_map, hxl]) hD4 (by omega) (fun H' s => SqT.of (s _ _ ht4)) ?_ ?_ (fun _ _ R R' h q => gName_mn R R' h q)
      · rintro i x Ho Ha b Q' eb sa ⟨rfl, hxi⟩ kq
        rw [ext, List.getElem?_map] at hxi
        cases ey : Tl[i]? with
        | none => rw [ey] at hxi; cases hxi
        | some y =>
        rw [ey] at hxi
        obtain rfl := Option.some.inj hxi
        rw [hbt, List.getElem?_map, ey] at eb
        obtain rfl := Option.some.inj eb
        have hy := (hBT y (List.mem_of_getElem? ey)).1
        have hsq : SqL K Ha y.1 (strv y.2) ∨ SqT K Ha y.1 (strv y.2) := hy.imp (fun q => SqL.of (sa _ _ q)) (fun q => SqT.of (sa _ _ q))
        refine ⟨Same.refl _, rfl, _, rfl, y.1, strv y.2, rfl, hsq, rfl, flat_strs _, decide (("ground" : Str) ∈ y.2), ?_, ?_⟩
        · show V.bl (inV _ _) = _
          rw [inV_strs]
        have kq : ∀ H'', Same Ha H'' → Q' (.bl (decide (("ground" : Str) ∈ y.2) && decide (("power" : Str) ∈ y.2))) H'' := kq
        by_cases hg : ("ground" : Str) ∈ y.2
        · rw [decide_eq_true hg] at kq ⊢
          refine iteT ⟨_, rfl, y.1, strv y.2, rfl, hsq, rfl, flat_strs _, ?_⟩
          rw [if_neg (by decide), inV_strs]
          exact kq _ (Same.refl _)
        · rw [decide_eq_false hg] at kq ⊢
          exact iteF (kq _ (Same.refl _))
      intro H5 s5 d5
      refine ⟨D4, _, rfl, SqL.of d5, ?_⟩
      have eany : (rs.map bothD).any id = rs.any bothD := by rw [List.any_map]; rfl
      rw [eany]
      refine ⟨_, rfl, ?_⟩
      have s05 := s04.trans s5
      cases hb : rs.any bothD with
      | true => exact iteT (keq _ (by rw [if_pos hb]) _ s05)
      | false => exact iteF (keq _ (by rw [if_neg (by rw [hb]; decide)]) _ s05)
    · rw [if_neg hnd] at keq
      rw [decide_eq_true (show ((SetS.setL zs).length : Int) < (zs.length : Int) by have := (nd_set zs).mpr hnd; omega)]
      exact iteT (keq _ rfl _ s04)
end
end Sj
namespace Sj
open PySem L2 Sup StK Own Shw Exg Grd KepE
open NdefX (NF NScope ncx envF startF nscope_by)
open C8 (pss_cut tCut)
/-! k10: Board(..) and Board.of, made or refused -/
theorem nodup_le : ∀ {xs ys : List Str}, xs.Nodup → (∀ x ∈ xs, x ∈ ys) → xs.length ≤ ys.length
  | [], _, _, _ => Nat.zero_le _
  | x :: xs, ys, h, hs => by
    have h' := List.nodup_cons.mp h
    have hx := hs x List.mem_cons_self
    have := nodup_le (xs := xs) (ys := ys.erase x) h'.2 fun y hy => (List.mem_erase_of_ne (fun e => h'.1 (by rw [← e]; exact hy))).mpr (hs y (List.mem_cons_of_mem _ hy))
    rw [List.length_erase_of_mem hx] at this
    have := List.length_pos_of_mem hx
    rw [List.length_cons]
    omega
def Few (rs : List PyData) : Prop := rs.length ≤ 100 ∧ (wholeD rs).length ≤ 900
theorem due10_is (ms : List Str) (rs : List PyData) : due10 ms rs = .non ∨ ∃ z, due10 ms rs = .str z ∧ (reprText z).length ≤ 1000 := by
  unfold due10
  split
  · exact .inr ⟨_, rfl, by decide +kernel⟩
  split
  · exact .inr ⟨_, rfl, by decide +kernel⟩
  split
  · split
    · exact .inr ⟨_, rfl, by decide +kernel⟩
    · exact .inl rfl
  · exact .inr ⟨_, rfl, by decide +kernel⟩
/-- what rows that make a board are -/
theorem due10_non {ms : List Str} {rs : List PyData} (h : due10 ms rs = .non) : rs.all okB = true ∧ (wholeD rs).all (inL ms) = true ∧ ((wholeD rs).map nmD).Nodup ∧ rs.any bothD = false := by
  unfold due10 at h
  split at h
  · cases h
  rename_i h1
  split at h
  · cases h
  rename_i h2
  split at h
  · rename_i h3
    split at h
    · cases h
    · rename_i h4
      exact ⟨by simpa using h1, by simpa using h2, h3, by simpa using h4⟩
  · cases h
structure BoA (P : Program) (w : World) (K : PySem.W.Frag) (mg : Str → Option Value) (base : Heap) (ks : Kinds) (CF CI fI CB : Addr) : Prop where
  bo : BoT P w K mg base ks CF CI fI CB
  wrong : ∃ f fd, mg "wrong_blocks" = some (.ref f) ∧ PySem.W.keepIn K (.ref f) = true ∧ Binds K fd ["frame", "blocks"] [] ∧ FnOk P w K mg base CX0 4 f fd ["frame", "blocks"] (spWbA ks CF)
/-- a board of the frame at f stands -/
def BoO (H : Hp) (o CB f : Addr) : Prop := ∃ L, BoAt H o CB f L
def spBoA (ks : Kinds) (CF CI CB : Addr) : Sp := fun vs H Q E => ∃ (o dx f t : Addr) (d : FrD) (xs : List V) (rs : List PyData), vs = [.ref o, .ref f, .ref t] ∧ H o = some (.ins CB dx []) ∧ FrIs ks CF H f d ∧ H t = some (.tup xs) ∧ DhAll H xs rs ∧ Few rs ∧ (membZ d).Nodup ∧
  (∀ z, due10 (membZ d) rs = .str z → ∀ e H', errH H H' e "reason" (.str z) → E (.ref CI) (some e) H') ∧ (due10 (membZ d) rs = .non → ∀ H', BoO H' o CB f → But H H' o → Q .non H')
theorem memb_42 {ks : Kinds} {CF : Addr} {H : Hp} {f : Addr} {d : FrD} (h : FrIs ks CF H f d) : (membZ d).length ≤ 42 := by
  have h1 := h.le
  have h2 := rails_le d.g d.r
  unfold membZ names
  rw [List.length_append, List.length_map]
  omega
section
variable {P : Program} {w : World} {K : PySem.W.Frag} {mg : Str → Option Value} {base : Heap}
theorem body_boA {CI fI CF CB f : Addr} {ks : Kinds} (TX : BoA P w K mg base ks CF CI fI CB) (cdv : Value) (A : Around) (outer : List Env) (s : Shared) (H : Hp) (vs : List V) (Q : VK) (E : XK)
    (hr : Room 4 (A.deeper (PyProof.Rows.envOfC "Board.__init__" (defScope sBoI) s.heap.objs.size f cdv))) (h : spBoA ks CF CI CB vs H Q E) :
    ∃ t, PSs (cxOf (L2.CX P w) P w K mg base nBo "Board.__init__" (defScope sBoI) f cdv A outer s H E) (defBody sBoI) t ∧ t { nx := fun _ H' => Q .non H', rt := Q } (start nBo vs) H := by
  obtain ⟨o, dx, fr, t, d, xs, rs, rfl, ho, hF, ht, hx, few, hmn, k1, k2⟩ := h
  rcases due10_is (membZ d) rs with e | ⟨z, e, hz⟩
  · obtain ⟨h1, h2, h3, h4⟩ := due10_non e
    obtain ⟨Bl, rfl, hB, hal, hbt⟩ := rows_txt hx h1 h2
    have hm : ∀ z ∈ allN Bl, z ∈ membZ d := by
      rw [hal]
      exact (all_strs (rows_flat (K := K) hx (List.all_eq_true.mpr fun r hr' => by
        obtain ⟨es, he, _⟩ := okB_seq (List.all_eq_true.mp h1 r hr')
        rw [he]
        rfl)).choose_spec.2.2.1 h2).2.1
    rw [← hal] at h3
    refine body_boI TX.bo cdv A outer s H _ Q E hr ⟨o, dx, fr, t, d, Bl, rfl, ho, hF, ht, hB, hm, h3, hmn, Nat.le_trans (nodup_le h3 hm) (Nat.le_trans (memb_42 hF) (by decide)), fun x hx' hb => ?_, fun H' L _ hL hb => k2 e H' ⟨L, hL⟩ hb⟩
    have : rs.any bothD = true := by
      rw [show rs.any bothD = (rs.map bothD).any id by rw [List.any_map]; rfl, hbt, List.any_eq_true]
      refine ⟨_, List.mem_map.mpr ⟨x, hx', rfl⟩, ?_⟩
      show (decide _ && decide _) = true
      rw [decide_eq_true hb.1, decide_eq_true hb.2]
      rfl
    rw [this] at h4
    cases h4
  have T := TX.bo
  obtain ⟨fdI, bI, GI⟩ := T.inv
  obtain ⟨fW, fdW, mW, kW, bW, GW⟩ := TX.wrong
  have hr1 := hr.mono (show 2 ≤ 4 by decide)
  refine ⟨_, pss_cons (ps_set (i := 3) scBoI.nd rfl (Or.inl rfl) (pe_call GW hr rfl mW kW bW .nil pass0 (pa_cons (pv 1) (pa_cons (pv 2) pa_nil))))
      (pss_cons (ps_if (pt_cmpR op_notN (pv 3) pe_non (nomark _)) (pss_one (ps_raise rfl (takes_of rfl rfl rfl rfl) (pmk_oex T.ex.oex T.iC T.tI GI hr1 bI .nil pass0 rfl T.mI (pa_cons (pv 3) pa_nil)))) pss_nil)
      (pss_cons (ps_fld (pv 0) (pv 1) rfl)
      (pss_cons (ps_set (i := 4) scBoI.nd rfl (Or.inr rfl) (pe_lc2 (wi1 := iSeq K (tVar 6)) (te := tVar 7) (tt := tYes) (tt1 := tYes) (own := [("block", 6), ("name", 7)]) (vs1 := [7]) (g := gName 6) (g1 := gName 7) rfl scBoI.nd (pi_tup (pv 2)) (blkOk_by (N := nBo) (sc := defScope sBoI) (by decide +kernel)) (by decide)
          (fun _ _ _ _ _ => pg_name (i := 6) scBoI.nd rfl (Or.inl rfl)) (fun _ _ _ _ _ => pts_nil) (fun _ _ _ _ _ => pi_seq (pv 6)) (fun _ _ _ _ _ => pg_name (i := 7) scBoI.nd rfl (Or.inl rfl)) (fun _ _ _ _ _ => pts_nil) (fun _ _ _ _ _ => pv 7)))
      (pss_cons (ps_setLc (i := 5) (te := tOne K) (tt := tB (tOp (rIn K true) (tVar 7) (tVar 4))) (own := [("name", 7)]) (g := gName 7) rfl scBoI.nd rfl rfl (sw_true rfl rfl rfl (by decide +kernel)) (pi_tup (pe_propS (S := fun C => C = CF) (spP := fun _ => spMem ks CF) (pv 1) (fun C e => by rw [e]; exact T.mem) hr)) (blkOk_by (N := nBo) (sc := defScope sBoI) (by decide +kernel))
          (fun _ _ _ _ _ => pg_name (i := 7) scBoI.nd rfl (Or.inl rfl)) (fun _ _ _ _ _ => pts_one (pt_cmpR op_notIn_seq (pv 7) (pv 4) (by rfl))) (fun _ _ _ _ _ => pe_tup (pa_cons (pv 7) pa_nil)))
      (pss_cons (ps_fld (pv 0) (pe_callTy (T := "tuple") call_tuple_of (by rfl) T.tuple (by decide +kernel) (pa_cons (pe_callB SortB.call_sortedTT (by rfl) T.sorted (by decide +kernel) (pa_cons (pe_op op_cat
          (pe_lc (te := tSrt K) (tt := tYes) (own := [("block", 6)]) (g := gName 6) rfl scBoI.nd (pi_tup (pv 2)) (blkOk_by (N := nBo) (sc := defScope sBoI) (by decide +kernel)) (fun _ _ _ _ _ => pg_name (i := 6) scBoI.nd rfl (Or.inl rfl)) (fun _ _ _ _ _ => pts_nil)
            (fun _ _ _ _ _ => pe_callTy (T := "tuple") call_tuple_of (by rfl) T.tuple (by decide +kernel) (pa_cons (pe_callB SortT.call_sortLT (by rfl) T.sorted (by decide +kernel) (pa_cons (pv 6) pa_nil)) pa_nil))) (pv 5)) pa_nil)) pa_nil)) rfl)
      (pss_one (ps_fld (pv 0) (DcTwo.pe_dc2 (wi1 := iTup K (tVar 6)) (tk := tVar 7) (tv := tVar 6) (tt := tYes) (tt1 := tYes) (own := [("block", 6), ("name", 7)]) (vs1 := [7]) (g := gName 6) (g1 := gName 7) rfl scBoI.nd (pi_tup (pe_fld (pv 0) rfl)) (blkOk_by (N := nBo) (sc := defScope sBoI) (by decide +kernel)) (by decide)
          (fun _ _ _ _ _ => pg_name (i := 6) scBoI.nd rfl (Or.inl rfl)) (fun _ _ _ _ _ => pts_nil) (fun _ _ _ _ _ => pi_tup (pv 6)) (fun _ _ _ _ _ => pg_name (i := 7) scBoI.nd rfl (Or.inl rfl)) (fun _ _ _ _ _ => pts_nil) (fun _ _ _ _ _ => pv 7) (fun _ _ _ _ _ => pv 6)) rfl))))))), ?_⟩
  refine ⟨_, rfl, _, rfl, fr, t, d, xs, rs, rfl, hF, ht, hx, few.1, few.2, fun H1 s1 => ?_⟩
  rw [e]
  exact ⟨_, rfl, rfl, _, rfl, iteT (raise_inv (fun Q' q => ⟨_, rfl, q⟩) hz s1 (k1 z e))⟩
def spBoSA (ks : Kinds) (CF CI CB : Addr) : Sp := fun vs H Q E => ∃ ws rest, vs = ws ++ rest ∧ ws.length = (["self", "frame"] : List Str).length ∧ rest.length ≤ sizeLine ∧ ∀ p, H p = none → spBoA ks CF CI CB (ws ++ [.ref p]) (upd H p (.tup rest)) Q E
theorem fnr_boA {CI fI CF CB f : Addr} {fd : FuncData} {ks : Kinds} (F : FunD K "__init__" "Board.__init__" (defArgs sBoI) (defBody sBoI) (defScope sBoI) [] [] f fd) (T : BoA P w K mg base ks CF CI fI CB) :
    FnR P w K mg base (L2.CX P w) 5 f (spBoSA ks CF CI CB) := by
  obtain ⟨oc, od, dV, kV, doc, pm, an, cdv, ct, osl, rfl, lk, hcd, hD, hK⟩ := F.ex
  rcases hD with ⟨_, rfl⟩ | ⟨e, _⟩
  case inr => exact absurd rfl e
  refine StX.fn_star (pv := "blocks") (ps := ["self", "frame"]) lk hcd scBoI StX.cxUp (fun us rest h => ?_) fun A outer s H vs Q E hr h => body_boA T cdv A outer s H vs Q E hr h
  exact StX.bind_star2 (B := fun l => bindArgs _ ⟨l, []⟩) (fun a b => rfl) (fun a b r rs => rfl) us rest h
end
theorem mk_boA {CI CF CB f x dx : Addr} {ks : Kinds} {d : FrD} {xs : List V} {rs : List PyData} {H : Hp} {Q : VK} {E : XK} (hF : FrIs ks CF H f d) (hx' : DhAll H xs rs) (few : Few rs) (hmn : (membZ d).Nodup) (hx : H x = none) (hdx : H dx = none) (hne : dx ≠ x)
    (k1 : ∀ z, due10 (membZ d) rs = .str z → ∀ e H', errH H H' e "reason" (.str z) → E (.ref CI) (some e) H') (k2 : due10 (membZ d) rs = .non → ∀ H', BoO H' x CB f → Same H H' → Q .non H') : spBoSA ks CF CI CB (V.ref x :: .ref f :: xs) (upd (upd H dx (.own x)) x (.ins CB dx [])) Q E := by
  have s1 : Same H (upd (upd H dx (.own x)) x (.ins CB dx [])) := fun b o e => by
    rw [upd_ne (ne_of_none e hx), upd_ne (ne_of_none e hdx)]
    exact e
  refine ⟨[.ref x, .ref f], xs, rfl, rfl, ?_, fun t ht => ?_⟩
  · rw [hx'.len]
    exact Nat.le_trans few.1 (by decide)
  have hxt : x ≠ t := ne_of_none upd_same ht
  have s2 := s1.trans (same_at (o := .tup xs) ht)
  refine ⟨x, dx, f, t, d, xs, rs, rfl, by rw [upd_ne hxt, upd_same], hF.same s2, upd_same, hx'.same s2, few, hmn, fun z e d' H' er => k1 z e d' H' (er.of s2), fun e H' hO hb => k2 e H' hO fun b o e' => ?_⟩
  exact hb b o (ne_of_none e' hx) (s2 _ _ e')
/-- of any value: what it is as rows -/
def dueB (ms : List Str) : Option (List PyData) → V
  | some rs => due10 ms rs
  | none => .str "blocks"
/-- a value that is asked about -/
inductive RowB (K : PySem.W.Frag) (H : Hp) : V → Option (List PyData) → Prop
  | seq {a : Addr} {xs : List V} {rs : List PyData} : H a = some (.lst xs) ∨ H a = some (.tup xs) → DhAll H xs rs → Few rs → RowB K H (.ref a) (some rs)
  | odd {x : V} {t : String} : TyX K H x (.type t) → kitB t "list" = some false → kitB t "tuple" = some false → RowB K H x none
def spBOfA (K : PySem.W.Frag) (ks : Kinds) (CF CI CB : Addr) : Sp := fun vs H Q E => ∃ (f : Addr) (y : V) (d : FrD) (os : Option (List PyData)), vs = [.ref CB, .ref f, y] ∧ FrIs ks CF H f d ∧ (membZ d).Nodup ∧ RowB K H y os ∧
  (∀ z, dueB (membZ d) os = .str z → ∀ e H', errH H H' e "reason" (.str z) → E (.ref CI) (some e) H') ∧ (dueB (membZ d) os = .non → ∀ x H', H x = none → BoO H' x CB f → Same H H' → Q (.ref x) H')
section
variable {P : Program} {w : World} {K : PySem.W.Frag} {mg : Str → Option Value} {base : Heap}
theorem ok_bofA {CI fI CF CB fB f : Addr} {fd : FuncData} {ks : Kinds} (F : FunD K "of" "Board.of" (defArgs sBoO) (defBody sBoO) (defScope sBoO) [] [] f fd) (T : BofT P w K mg base CI fI CB fB)
    (GF : FnR P w K mg base (L2.CX P w) 5 fB (spBoSA ks CF CI CB)) : FnOk P w K mg base (L2.CX P w) 7 f fd ["cls", "frame", "blocks"] (spBOfA K ks CF CI CB) := by
  obtain ⟨fdI, bI, GI⟩ := T.inv
  refine F.ok scBoO (fun vs H Q E h => ?_) (fun cdv A outer s H vs Q E hr h => ?_)
  · obtain ⟨fr, y, d, os, rfl, _⟩ := h
    rfl
  · obtain ⟨fr, y, d, os, rfl, hF, hmn, hy, k1, k2⟩ := h
    refine ⟨_, pss_cons (ps_if (pt_not (pt_val (pe_callB call_isiT (by rfl) T.isi (by decide +kernel) (pa_cons (pv 2) (pa_cons (pe_tup (pa_cons (pe_bltn (by rfl) T.list (by decide +kernel) (v := .ty "list") rfl) (pa_cons (pe_bltn (by rfl) T.tuple (by decide +kernel) (v := .ty "tuple") rfl) pa_nil))) pa_nil)))))
        (pss_one (ps_raise rfl (takes_of rfl rfl rfl rfl) (pmk_oex T.ex.oex T.iC T.tI GI (hr.mono (by decide)) bI .nil pass0 rfl T.mI (pa_cons pe_str pa_nil)))) pss_nil)
      (pss_one (ps_ret (MakeS.pe_makeSV T.mkc GF hr (passes_call (takes_of rfl rfl rfl rfl) fun _ _ _ _ h => h) (pv 0) (pa_cons (pv 1) (StX.pa_star (pv 2) pa_nil))))), ?_⟩
    cases hy with
    | odd ty a b =>
      refine ⟨_, rfl, by show 2 ≤ sizeLine; decide, fun p hp => ?_⟩
      have s1 := same_at (o := .tup [V.ty "list", .ty "tuple"]) hp
      refine ⟨y, p, [.ty "list", .ty "tuple"], _, [.type "list", .type "tuple"], _, rfl, upd_same, .cons (.ty _) (.cons (.ty _) .nil), tyx_same ty s1, kit_two a b, ?_⟩
      exact ⟨_, rfl, iteT (raise_inv (fun Q' q => q) (by decide +kernel) s1 (k1 _ rfl))⟩
    | @seq l xs rs q dd few =>
      have hty : ∃ t b c, TyX K H (.ref l) (.type t) ∧ kitB t "list" = some b ∧ kitB t "tuple" = some c ∧ (b || c) = true := by
        rcases q with q | q
        · exact ⟨"list", true, false, .base (.lst q), by decide +kernel, by decide +kernel, rfl⟩
        · exact ⟨"tuple", false, true, .base (.tup q), by decide +kernel, by decide +kernel, rfl⟩
      obtain ⟨t, b, c, ty, kb, kc, hbc⟩ := hty
      refine ⟨_, rfl, by show 2 ≤ sizeLine; decide, fun p hp => ?_⟩
      have s1 := same_at (o := .tup [V.ty "list", .ty "tuple"]) hp
      refine ⟨_, p, [.ty "list", .ty "tuple"], _, [.type "list", .type "tuple"], _, rfl, upd_same, .cons (.ty _) (.cons (.ty _) .nil), tyx_same ty s1, kit_two kb kc, ?_⟩
      rw [hbc]
      refine ⟨_, rfl, iteF ?_⟩
      refine ⟨_, rfl, rfl, _, rfl, _, rfl, l, xs, rfl, ?_, ?_⟩
      · rcases q with q | q
        · exact .inr (SqL.of (s1 _ _ q))
        · exact .inl (SqT.of (s1 _ _ q))
      · intro x dx hx hdx hne
        rw [List.append_nil]
        exact mk_boA (hF.same s1) (dd.same s1) few hmn hx hdx hne (fun z e d' H' er => k1 z e d' H' (er.of s1)) fun e H' hO hs => ⟨rfl, k2 e x H' (s1.free hx) hO (s1.trans hs)⟩
end
end Sj
/-! a list comprehension whose element may raise: a call's exception leaves the block, its variables are let go, it goes on in the def -/
namespace LcX
open PySem PySem.Spec PyProof.Rows L2
/-- a call's exception came out of the block Y -/
def outX (Y : Cx) (E : XK) : Value → Shared → Prop := fun e s' => ∃ (pn : List (Addr × Obj)) (τ : L2.St) (G : Hp) (t : Shared), Inv Y pn τ G t ∧ L2.CX Y.prog Y.w Y.stack G t E e s'
abbrev blX (X : Cx) (E : XK) (s : Shared) (H : Hp) (scope : Scope) (ce : Env) (fp : List Addr) : Cx := (X.blk s H scope ce fp).wish (outX (X.blk s H scope ce fp) E)
def postX (M : Model) (A : Around) (E : Value → Shared → Prop) (ce : Env) (Qf : Shared → Prop) : Result → Shared → Prop
  | .ok _, s' => ∃ m, s'.heap.Ns ce.locals m ∧ ∀ h', Heap.SameBut ce.locals s'.heap h' → Qf { s' with heap := h' }
  | .error x, s' => ∃ m, s'.heap.Ns ce.locals m ∧ ∀ h', Heap.SameBut ce.locals s'.heap h' → wpAny M A (PySem.passOn "comprehension.variables-let-go" x ce : Sem Value) (fun _ _ => False) E { s' with heap := h' }
theorem ff_new {h h' B B' : Heap} : ∀ {l : List Env}, h.FunFrames B l → (∀ b ∈ frs l, B'.get? b = none ∧ h'.get? b = h.get? b) → h'.FunFrames B' l
  | [], _, _ => trivial
  | env :: l, hh, k => by
    obtain ⟨k1, ⟨L, o, k2, k3, k4, k5⟩, k6⟩ := hh
    have kL := k L (List.mem_filterMap.mpr ⟨env, List.mem_cons_self, k2⟩)
    refine ⟨k1, ⟨L, o, k2, kL.1, kL.2.trans k4, k5⟩, ff_new k6 fun b hb => ?_⟩
    obtain ⟨e, he, q⟩ := List.mem_filterMap.mp hb
    exact k b (List.mem_filterMap.mpr ⟨e, List.mem_cons_of_mem _ he, q⟩)
section
variable {X : Cx} {pins : List (Addr × Obj)} {σ : L2.St} {H3 : Hp} {s3 : Shared}
/-- the exception behind the block is in the def's air -/
theorem out_air {fp : List Addr} {scope : Scope} {ce : Env} {E : XK} {e : Value} {s' : Shared} {what : String} {R : Value → Shared → Prop} (I3 : Inv X pins σ H3 s3) (hst : X.stack = X.env :: X.outer) (hfr : X.env.frame = some X.env.locals) (tk : Takes X (fun cls d _ H => E cls d H))
    (hL : ce.locals = s3.heap.objs.size) (hF : ce.frame = X.env.frame)
    (hch : ∀ b ∈ fp, (b ∈ X.ex ∨ X.s_0.heap.objs.size ≤ b) ∧ b ≠ X.env.locals ∧ (∀ x c, X.env.cells.lookup x = some c → c ≠ b) ∧ ∀ p ∈ X.pn ++ pins, p.1 ≠ b) (out : outX (X.blk s3 H3 scope ce fp) E e s') :
    wpAny (model X.prog X.w) X.A (noteFrame e ce) (fun _ t => ∃ m, t.heap.Ns ce.locals m ∧ ∀ h', Heap.SameBut ce.locals t.heap h' → wpAny (model X.prog X.w) X.A (PySem.passOn what e ce : Sem Value) (fun _ _ => False) X.xe { t with heap := h' }) R s' := by
  obtain ⟨pn, τ, G, t, I, a, B, H', cls, d, rfl, fl, hokB, ub, na, os, ag, hE⟩ := out
  have un : Un (frs X.stack) fp H3 G s3.heap t.heap := I.base
  have ub : UB (frs X.stack) G H' t.heap B s'.heap := ub
  have fl : HandSPX.FlyingZ B X.stack a (Zc cls d) s'.heap := fl
  have hA : X.A.frames = some (X.env :: X.outer) := by rw [I3.ok.frames, hst]
  have en : noteFrame (.ref a) ce = noteFrame (.ref a) X.env := by
    unfold noteFrame PySem.frameOf
    rw [hF]
  rw [en]
  rw [hst] at fl
  refine HandSPX.looks_onZ Zc.steady hA hfr fl fun h1 held up => ?_
  rw [← hst] at held
  -- the block's variables
  obtain ⟨m, hn, _⟩ := I.loc
  have hn : t.heap.Ns ce.locals m := hn
  have nC : G ce.locals = none := I.free
  obtain ⟨oC, es, ep, eC, rC⟩ := hn
  have fsz : ∀ b ∈ frs X.stack, ∃ o, s3.heap.get? b = some o ∧ ∀ vs, o.data ≠ .fields vs := fun b hb => by
    obtain ⟨_, o, ho, hd⟩ := I3.stack.mem hb
    exact ⟨o, ho, hd⟩
  have neC : ∀ b o, s3.heap.get? b = some o → b ≠ ce.locals := fun b o q z => by
    have := Heap.lt_size q
    rw [z, hL] at this
    exact Nat.lt_irrefl _ this
  have fC : ce.locals ∉ frs X.stack := fun hm => by
    obtain ⟨o, ho, _⟩ := fsz _ hm
    exact neC _ o ho rfl
  have bC : B.get? ce.locals = some oC := ub.keep _ _ eC nC fC
  have nC' : H' ce.locals = none := ub.free _ _ eC nC
  obtain ⟨st, na1, ff, oe, vs, T, oT, ts, q1, q2, q3, q4, q5, q6, q7, q8, q9⟩ := held
  refine ⟨m, ⟨oC, es, ep, st _ _ bC, rC⟩, fun h' sb => ?_⟩
  have aC : a ≠ ce.locals := fun z => by rw [z, bC] at na1; cases na1
  have TC : T ≠ ce.locals := fun z => by rw [z, bC] at q5; cases q5
  have qa : h'.get? a = some oe := (sb.2 a aC).trans q1
  have qT : h'.get? T = some oT := (sb.2 T TC).trans q7
  have hsz : 3 < ts.size := (Array.getElem?_eq_some_iff.mp q9).1
  -- the ground without them
  obtain ⟨B', eB'⟩ : ∃ B', B' = PySem.W.hideAll B [ce.locals] := ⟨_, rfl⟩
  have b1 : ∀ b o, B'.get? b = some o → B.get? b = some o ∧ b ≠ ce.locals := fun b o q => by
    rw [eB'] at q
    refine ⟨PySem.W.of_hideAll _ q, fun z => ?_⟩
    rw [PySem.W.hideAll_none _ (show b ∈ [ce.locals] by rw [z]; exact List.mem_singleton.mpr rfl)] at q
    cases q
  have b2 : ∀ b o, B.get? b = some o → b ≠ ce.locals → B'.get? b = some o := fun b o q n => by
    rw [eB']
    exact PySem.W.hideAll_get _ q fun z => n (List.mem_singleton.mp z)
  have b3 : ∀ b, B.get? b = none → B'.get? b = none := fun b q => by
    cases z : B'.get? b with
    | none => rfl
    | some o => rw [(b1 b o z).1] at q; cases q
  have st' : B'.StaysIn h' := fun b o q => (sb.2 b (b1 b o q).2).trans (st b o (b1 b o q).1)
  have ff' : h'.FunFrames B' X.stack := ff_new ff fun b hb => ⟨b3 b (ff.mem hb).1, sb.2 b fun z => fC (z ▸ hb)⟩
  have held' : HandSPX.HeldZ B' X.stack a (Zc cls d) X.env.locals h' := ⟨st', b3 a na1, ff', oe, vs, T, oT, ts, qa, q2, q3, q4, b3 T q5, q6, qT, q8, q9⟩
  have hok' : HOk X.prog X.w H' B' := fun b o q => (hokB b o q).stay (fun c u hc r => b2 c u r fun z => by
    rcases hc with hc | hc
    · rw [← z, hc, q] at nC'; cases nC'
    · rw [← z, hc] at nC'; cases nC') (fun _ r => r) fun _ _ r => r
  -- a state of the def
  obtain ⟨F, f1, f2⟩ := restrict h' fun b => (B'.get? b).isSome || decide (b ∈ frs X.stack)
  have gB : ∀ b o, B'.get? b = some o → F.get? b = some o := fun b o q => by
    rw [f1 b (by rw [q]; rfl)]
    exact st' b o q
  have gF : ∀ b, b ∈ frs X.stack → F.get? b = h'.get? b := fun b hb => f1 b (by rw [decide_eq_true hb, Bool.or_true])
  have gO : ∀ b o, F.get? b = some o → h'.get? b = some o ∧ ((B'.get? b).isSome = true ∨ b ∈ frs X.stack) := fun b o q => by
    cases z : ((B'.get? b).isSome || decide (b ∈ frs X.stack)) with
    | false => rw [f2 b z] at q; cases q
    | true =>
      rw [f1 b z] at q
      refine ⟨q, ?_⟩
      rcases Bool.or_eq_true_iff.mp z with z | z
      · exact .inl z
      · exact .inr (of_decide_eq_true z)
  have slo : ∀ b o, s3.heap.get? b = some o → H3 b = none → b ∈ frs X.stack → b ∉ fp → ∃ sl, F.get? b = some { o with slots := sl } := fun b o q n hb hx => by
    obtain ⟨sl, e1⟩ := un.slot b o q n hb hx
    obtain ⟨sl2, e2⟩ := ub.slot b _ e1 hb
    obtain ⟨o', e0, hnf⟩ := fsz b hb
    rw [q] at e0
    cases e0
    obtain ⟨sl3, e3⟩ := up b _ e2 hnf
    exact ⟨sl3, by rw [gF b hb, sb.2 b (neC b o q)]; exact e3⟩
  have J : Inv X pins σ H' { s3 with heap := F, gens := s'.gens, drawn := s'.drawn, toks := s'.toks } := by
    refine I3.call' (ch := fp) rfl ⟨fun b o q n hb hx => gB b o (b2 b o (ub.keep b o (un.keep b o q n hb hx) (un.free b o q n hx) hb) (neC b o q)), slo, fun b o q n hx => ?_, fun b o q hx => ?_, fun b xs q => ub.tups b xs (un.tups b xs q),
      fun b o u q => ub.frzs b o u (un.frzs b o u q), fun b ps q => ?_⟩ (hok'.kept gB) ag hch
    · obtain ⟨o', e1⟩ := un.there b o q hx
      exact ub.free b o' e1 (un.free b o q n hx)
    · by_cases hb : b ∈ frs X.stack
      · obtain ⟨sl, e1⟩ := slo b o q (I3.stkFree b hb) hb hx
        exact ⟨_, e1⟩
      · obtain ⟨o1, e1⟩ := un.there b o q hx
        obtain ⟨o2, e2⟩ := ub.there b o1 e1 hb
        exact ⟨o2, gB b o2 (b2 b o2 e2 (neC b o q))⟩
    · obtain ⟨m1, e1⟩ := un.tbls b ps q
      obtain ⟨m2, e2⟩ := ub.tbls b _ e1
      exact ⟨m1 ++ m2, by rw [e2, Array.append_assoc]⟩
  have air : XE X (fun cls d _ H => E cls d H) (.ref a) { s' with heap := h' } := by
    refine ⟨a, B', _, pins, σ, H', cls, d, rfl, J, fun b o q hb => ?_, Heap.UpToSlots.of_keeps fun b o q => (gO b o q).1, .inr (.inr held'), na, os.trans I.os, ag, hE⟩
    rcases (gO b o q).2 with z | z
    · obtain ⟨o', e1⟩ := Option.isSome_iff_exists.mp z
      have e2 := gB b o' e1
      rw [show F.get? b = some o from q] at e2
      cases e2
      exact e1
    · exact absurd z hb
  have go : wpAny (model X.prog X.w) X.A (setFlight (.ref a) ce.frame >>= fun _ => (throw (.ref a) : Sem Value)) (fun _ _ => False) X.xe { s' with heap := h' } := by
    rw [hF, hfr]
    unfold setFlight
    refine wpAny_bind (wpAny_bind (wpAny_field qa q3 q4 ?_))
    rw [if_pos (show (Value.ref T != Value.none) = true from by simp)]
    refine wpAny_setField qT q8 hsz ?_
    rw [show ((some X.env.locals : Option Addr).elim Value.none fun f => rawInt f) = rawInt X.env.locals from rfl, Heap.update_setField_same h' T oT ts 3 (rawInt X.env.locals) qT q8 q9]
    exact wpAny_throw (tk _ _ air)
  unfold PySem.passOn
  refine wpAny_bind (wpAny_field qa q3 q4 ?_)
  rw [if_neg (show ¬ ((Value.ref T == Value.none) = true) from by simp)]
  first
    | exact go
    | exact wpAny_bind (wpAny_pure go)
end
end LcX
namespace LcX
open PySem PySem.Spec PyProof.Rows L2
section
variable {M : Model} {A : Around} {E : Value → Shared → Prop} {t : Shared} {env : Env}
/-- the block as a whole, its end by postX: the exception's frame is that of the block's own environment -/
theorem block_free {lc : Expr} {scope : Scope} {pos : Pos} {acc0 first : Sem Value} {g : Comprehension} {gs : List Comprehension} {cl : List (Str × Addr)} {Q : Value → Shared → Prop}
    (hcl : clausesOf lc = g :: gs) (hf : ∀ x, foldedSetIterable g.iter env x = pure x) (hcf : closureFor scope env = pure cl) (hk : scope.kind = .function) (hn : ∀ x ∈ scope.names, x.2 = .local → scope.names.lookup x.1 = some .local)
    (h : wpAny M A first (fun x t1 => wpAny M A (pyIter x) (fun it t2 => wpAny M A acc0 (fun acc t3 => wpAny M A (newFunctionEnv scope env.globals cl [] env.qual none .none (some env)) (fun ce t4 =>
      codeAny M A (.compStart lc 0 it acc { ce with scope := relabel scope env }) (postX M A E { ce with scope := relabel scope env } (Q acc)) t4) E t3) E t2) E t1) E t) :
    wpAny M A (comprehension lc scope env pos acc0 false first none) Q E t := by
  unfold comprehension
  rw [hcf, hcl]
  have id1 : ∀ {α : Type} {Q1 Q2 : α → Shared → Prop} {m : Sem α} {u : Shared}, wpAny M A m Q1 E u → (∀ a s, Q1 a s → Q2 a s) → wpAny M A m Q2 E u := fun a b => wpAny_mono a b fun _ _ z => z
  refine wpAny_bind (id1 h fun x t1 k1 => wpAny_bind (wpAny_standAt (wpAny_bind (wpAny_of_eq (hf x) (wpAny_bind (wpAny_holding (id1 k1 fun it t2 k2 => wpAny_standIf (wpAny_bind (id1 k2 fun acc t3 k3 => wpAny_bind (wpAny_pure (wpAny_bind (id1 k3 fun ce t4 k4 => ?_))))))))))))
  dsimp only
  have own : ∀ x ∈ (scope.names.filter fun x => (x.2 == .local || x.2 == .cell) && x.1 != (".0" : Str)).reverse, x.2 = .local → Env.kindOf { ce with scope := relabel scope env } x.1 = some .local := fun x hx hl => lookup_relabel_local (hn x (List.mem_filter.mp (List.mem_reverse.mp hx)).1 hl)
  refine wpAny_holding (wpAny_bind (wpAny_attempt (wpAny_holding (wpAny_run (codeAny_mono k4 fun r t5 k5 => ?_)))))
  match r, k5 with
  | .ok f, ⟨m, n5, q5⟩ => exact wpAny_bind (wpAny_holding (wpAny_comp_letGo (cenv := { ce with scope := relabel scope env }) hk _ t5 m own n5 fun h' m' _ sb => wpAny_pure (q5 h' sb)))
  | .error x, ⟨m, n5, q5⟩ => exact wpAny_bind (wpAny_holding (wpAny_comp_letGo (cenv := { ce with scope := relabel scope env }) hk _ t5 m own n5 fun h' m' _ sb => wpAny_mono (q5 h' sb) (fun _ _ z => z.elim) fun _ _ z => z))
end
end LcX
/-! a list comprehension whose list is known not to be the interpreter's dict of modules -/
namespace LcX
open PySem PySem.Spec PyProof.Rows L2
def tLcN (wi : TI) (g : TG) (tt : TT) (te : TE) (vs : List Nat) : TE := fun σ H Q => wi σ H fun J H1 => ∀ (D : Addr), H1 D = none → sysModules ≠ D → ∃ W : Nat → Nat → Hp → Prop, (∃ m, W 0 m (upd H1 D (.lst []))) ∧ ∀ i m H, W i m H →
  (J.stop i H ∧ Q (.ref D) H) ∨ (J.go i H ∧ ∃ Nx : Hp → Prop, (∀ H', Nx H' → ∃ m', m' < m ∧ W (i + 1) m' H') ∧ ∀ x H', J.yld i H x H' → g x (wipe σ vs) H' fun σ2 H2 => wipe σ2 vs = wipe σ vs ∧ tt σ2 H2 fun b H3 =>
    if b = true then te σ2 H3 fun y H4 => ∃ acc, H4 D = some (.lst acc) ∧ acc.length < sizeLine ∧ Nx (upd H4 D (.lst (acc ++ [y]))) else Nx H3)
section
variable {X : Cx}
theorem pe_lcN {elt tg iter : Expr} {ifs : List Expr} {scope : Scope} {own : List (Str × Nat)} {pos : Pos} {wi : TI} {g : TG} {tt : TT} {te : TE} {E : XK} (hc : X.calm = true) (hN : X.N.Nodup) (hst : X.stack = X.env :: X.outer) (hfr : X.env.frame = some X.env.locals) (tk : Takes X (fun cls d _ H => E cls d H))
    (hi : PI X tg iter wi) (ok : BlkOk X.N X.env.scope scope own) (hg : ∀ (s : Shared) (H : Hp) (C : Addr) (cl : List (Str × Addr)) (fp : List Addr), PG (X.blk s H scope (compEnvC scope cl C X.env) fp) tg g)
    (ht : ∀ (s : Shared) (H : Hp) (C : Addr) (cl : List (Str × Addr)) (fp : List Addr), PTs (X.blk s H scope (compEnvC scope cl C X.env) fp) ifs tt)
    (he : ∀ (s : Shared) (H : Hp) (C : Addr) (cl : List (Str × Addr)) (fp : List Addr), PE (blX X E s H scope (compEnvC scope cl C X.env) fp) elt te) (hs : ∀ x, foldedSetIterable iter X.env x = pure x := by intro _; rfl) :
    PE X (.ListComp elt [⟨tg, iter, ifs, 0⟩] scope pos) (tLcN wi g tt te (own.map (·.2))) := by
  refine ⟨fun pins s σ H Q I h => ?_⟩
  rw [eval_ListComp]
  have clo : ∀ y ∈ scope.names, y.2 = .free → ∃ c, X.env.cells.lookup y.1 = some c := fun y hy e => I.ok.has _ (ok.free y hy e)
  refine block_free rfl hs (closure_ok clo) ok.kind (fun y hy e => by rw [ok.uniq y hy, e]) (thn (hi.run pins s σ H _ I h) fun x0 t1 hx => thn hx fun i0 t2 ⟨it, fp, tn, J, H2, e, I2, T, st2, f2, q⟩ => ?_)
  subst e
  refine wpAny_newObj_type (newEnv_comp ?_) (by show 0 ≤ sizeLine; decide)
  obtain ⟨D, eD⟩ : ∃ D, D = t2.heap.objs.size := ⟨_, rfl⟩
  rw [← eD]
  have nD : H2 D = none := I2.hok.fresh (Nat.le_of_eq eD.symm)
  obtain ⟨W, ⟨m0, w0⟩, turn⟩ := q D nD (by rw [eD]; exact Nat.ne_of_lt (StX.env0_big I2.env0))
  obtain ⟨t3, e3⟩ : ∃ t3 : Shared, t3 = { t2 with heap := t2.heap.push { cls := .type "list", data := .seq ([] : List Value).toArray } } := ⟨_, rfl⟩
  rw [show ({ t2 with heap := t2.heap.push { cls := .type "list", data := .seq ([] : List Value).toArray } } : Shared) = t3 from e3.symm]
  have k23 : ∀ b o, t2.heap.get? b = some o → t3.heap.get? b = some o := fun b o e => by rw [e3]; exact Heap.get?_push_of_some _ e
  obtain ⟨H3, eH⟩ : ∃ H3, H3 = upd H2 D (.lst []) := ⟨_, rfl⟩
  rw [← eH] at w0
  have I3 : Inv X pins σ H3 t3 := by
    rw [eH, e3]
    exact I2.laid (t' := t2.toks) (fun b o e => Heap.get?_push_of_some _ e) (Nat.le_of_eq eD.symm) ⟨Nat.zero_le _, [], 0, .nil, by rw [eD]; exact Heap.get?_push_size _ rfl⟩
  have fpt : ∀ b ∈ fp, FpOk X pins H3 b ∧ b < t3.heap.objs.size := fun b hb => by
    obtain ⟨o, e, _⟩ := T.obj _ _ st2 b hb
    refine ⟨⟨?_, (f2 b hb).2⟩, Heap.lt_size (k23 b o e)⟩
    rw [eH, upd_ne (by rw [eD]; exact Nat.ne_of_lt (Heap.lt_size e))]
    exact (f2 b hb).1
  have hch : ∀ b ∈ fp, (b ∈ X.ex ∨ X.s_0.heap.objs.size ≤ b) ∧ b ≠ X.env.locals ∧ (∀ x c, X.env.cells.lookup x = some c → c ≠ b) ∧ ∀ p ∈ X.pn ++ pins, p.1 ≠ b := fun b hb => by
    obtain ⟨_, z1, _, z2, z3, z4⟩ := (fpt b hb).1
    exact ⟨z2, z1, z3, z4⟩
  have I4 := block_start I3 ok hN fpt
  obtain ⟨cl, ecl⟩ : ∃ cl, cl = cellsFrom (t3.heap.objs.size + 1) scope.names (cloFrom X.env.cells scope.names []) := ⟨_, rfl⟩
  obtain ⟨ce, ece⟩ : ∃ ce, ce = compEnvC scope cl t3.heap.objs.size X.env := ⟨_, rfl⟩
  have pg := hg t3 H3 t3.heap.objs.size cl fp
  have pt := ht t3 H3 t3.heap.objs.size cl fp
  have pe := he t3 H3 t3.heap.objs.size cl fp
  show codeAny _ _ (.compStart (.ListComp elt [⟨tg, iter, ifs, 0⟩] scope pos) 0 (.ref it) (.ref D) (compEnvC scope (cellsFrom (t3.heap.objs.size + 1) scope.names (cloFrom X.env.cells scope.names [])) t3.heap.objs.size X.env))
    (postX (model X.prog X.w) X.A X.xe (compEnvC scope (cellsFrom (t3.heap.objs.size + 1) scope.names (cloFrom X.env.cells scope.names [])) t3.heap.objs.size X.env) (EP X pins σ Q (.ref D))) { t3 with heap := pushCells (t3.heap.push { cls := .type "dict", data := .dict #[] }) scope.names }
  rw [← ecl, ← ece] at I4 ⊢
  rw [← ece] at pg pt pe
  have ceL : ce.locals = t3.heap.objs.size := by rw [ece]; rfl
  have ceF : ce.frame = X.env.frame := by rw [ece]; rfl
  obtain ⟨t4, e4⟩ : ∃ t4 : Shared, t4 = { t3 with heap := pushCells (t3.heap.push { cls := .type "dict", data := .dict #[] }) scope.names } := ⟨_, rfl⟩
  rw [show ({ t3 with heap := pushCells (t3.heap.push { cls := .type "dict", data := .dict #[] }) scope.names } : Shared) = t4 from e4.symm] at I4 ⊢
  have st4 : tn 0 t4.heap := T.keep _ _ _ st2 fun b _ o e => by rw [e4]; exact pushCells_keeps _ _ _ _ (Heap.get?_push_of_some _ (k23 b o e))
  have at_fp : ∀ {τ : L2.St} {G : Hp} {u : Shared}, Inv (X.blk t3 H3 scope ce fp) [] τ G u → (∀ b ∈ fp, G b = none) → ∀ b ∈ fp, FpOk (X.blk t3 H3 scope ce fp) [] G b := fun {τ G u} K n b hb =>
    ⟨n b hb, (K.ok.exf b hb).1, K.ok.exfs b hb, .inl hb, fun x c e => (K.ok.exf b hb).2 x c e, fun p hp => nomatch hp⟩
  have outE : ∀ e' u, outX (X.blk t3 H3 scope ce fp) E e' u → notedBy (model X.prog X.w) X.A ce (fun e u => postX (model X.prog X.w) X.A X.xe ce (EP X pins σ Q (.ref D)) (.error e) u) e' u := fun e' u o => out_air I3 hst hfr tk ceL ceF hch o
  have lop : codeAny (model X.prog X.w) X.A (.compLoop (.ListComp elt [⟨tg, iter, ifs, 0⟩] scope pos) 0 (.ref it) (.ref D) ce) (postX (model X.prog X.w) X.A X.xe ce (EP X pins σ Q (.ref D))) t4 := by
    refine compLoop_any (fun n u => ∃ i G, Inv (X.blk t3 H3 scope ce fp) [] (wipe σ (own.map (·.2))) G u ∧ tn i u.heap ∧ (∀ b ∈ fp, G b = none) ∧ W i n G) ?_ m0 ⟨0, H3, I4, st4, fun b hb => (fpt b hb).1.1, w0⟩
    rintro n t5 ⟨i, H5, I5, st5, n5, w5⟩
    rcases turn i n H5 w5 with ⟨halt, qq⟩ | ⟨goes, Nx, hNx, step⟩
    · refine thnF (T.done (X.blk t3 H3 scope ce fp) rfl rfl rfl hc i [] t5 _ H5 (fun _ _ => False) I5 (at_fp I5 n5) st5 halt) fun r t6 ⟨hr, I6⟩ => ?_
      subst hr
      obtain ⟨m, hm, _⟩ := I6.loc
      have K : Inv X pins σ H5 t6 := I3.call' (ch := fp) I6.os I6.base I6.hok I6.bare hch
      have nC : H5 t3.heap.objs.size = none := by
        rw [← ceL]
        exact I6.free
      obtain ⟨g0, g1, g2, g3, g4, g5⟩ := I3.fpOk (H' := H5) (Nat.le_refl _) nC
      refine ⟨m, hm, fun h' sb => ?_⟩
      rw [ceL] at sb
      exact ⟨.ref D, H5, K.turned (t' := t6.toks) (fun b o hb e => (sb.2 b hb).trans e) g0 g1 g3 g4 g5, rfl, qq⟩
    · refine thnF (T.item (X.blk t3 H3 scope ce fp) rfl rfl rfl hc i [] t5 _ H5 (fun _ _ => False) I5 (at_fp I5 n5) st5 goes) fun r t6 ⟨u, hr, k6⟩ => ?_
      subst hr
      refine thnF k6 fun _ t7 ⟨x, H7, I7, r7, y7, st7, n7⟩ => ?_
      refine thnF (pg.run _ t7 _ H7 x u _ (I7.pinned (at_fp I7 n7) (T.obj _ _ st7)) r7 (step x H7 y7)) fun _ t8 ⟨σ8, H8, I8, w8, k8⟩ => ?_
      refine thnF (pt.run _ t8 σ8 H8 _ I8 k8) fun b t9 ⟨H9, I9, k9⟩ => ?_
      have next : ∀ {v : Shared} {G : Hp}, Inv (X.blk t3 H3 scope ce fp) ([] ++ pinsAt fp t7.heap) σ8 G v → Nx G → ∃ m, m < n ∧ ∃ i G, Inv (X.blk t3 H3 scope ce fp) [] (wipe σ (own.map (·.2))) G v ∧ tn i v.heap ∧ (∀ b ∈ fp, G b = none) ∧ W i m G := fun {v G} K nx => by
        obtain ⟨m', lt, w'⟩ := hNx G nx
        have pinned : ∀ b ∈ fp, ∀ o, t7.heap.get? b = some o → v.heap.get? b = some o ∧ G b = none := fun b hb o e => by
          have z := K.pin (b, o) (List.mem_append_right _ (List.mem_append_right _ (mem_pinsAt hb e)))
          exact ⟨z.1, z.2.1⟩
        refine ⟨m', lt, i + 1, G, (K.unpinned (pins := [])).weak (by rw [← w8, wipe_length]) (fun j v e => ?_), T.keep _ _ _ st7 fun b hb o e => (pinned b hb o e).1, fun b hb => ?_, w'⟩
        · rw [← w8] at e
          exact (wipe_some e).1
        · obtain ⟨o, e, _⟩ := T.obj _ _ st7 b hb
          exact (pinned b hb o e).2
      match b, k9 with
      | false, k9 => exact next I9 k9
      | true, k9 =>
        refine wpAny_mono (pe.run _ t9 σ8 H9 _ (I9.wish _) k9) (fun z t10 ⟨y, H10, I10, r10, acc, d10, z10, nx⟩ => ?_) fun e' u o => outE e' u o
        exact app_ok (X := X.blk t3 H3 scope ce fp) I10.unwish d10 z10 r10 fun t11 I11 => next I11 nx
  exact codeAny_compStart_list lop (T.self X.A 0 _ _ _ st4 lop)
end
end LcX
namespace Sj
open PySem L2 Sup StK Own Shw Exg Grd KepE
open NdefX (NF NScope ncx envF startF nscope_by)
open C8 (pss_cut tCut)
/-! k10: _law_bent -/
/-- all but the pen -/
def off (p : Addr) (H : Hp) : Hp := fun a => if a = p then none else H a
theorem off_up {p : Addr} {H H' : Hp} (s : Same H H') : Same (off p H) (off p H') := fun a o e => by
  unfold off at e ⊢
  split at e
  · cases e
  · rename_i n
    rw [if_neg n]
    exact s _ _ e
theorem off_but {p : Addr} {H H' : Hp} (b : But H H' p) : Same (off p H) (off p H') := fun a o e => by
  unfold off at e ⊢
  split at e
  · cases e
  · rename_i n
    rw [if_neg n]
    exact b _ _ n e
theorem off_in {p : Addr} {H : Hp} : Same (off p H) H := fun a o e => by
  unfold off at e
  split at e
  · cases e
  · exact e
theorem off_at {p a : Addr} {H : Hp} {o : HO} (n : a ≠ p) (h : H a = some o) : off p H a = some o := by
  unfold off
  rw [if_neg n]
  exact h
theorem cut_hiV (xs : List V) (k : Nat) : cutV xs none (some (k : Int)) = xs.take k := by
  unfold cutV
  rw [HT.sIx_none, HT.sIx_nat, Nat.sub_zero, List.drop_zero]
  rcases Nat.le_total k xs.length with h | h
  · rw [Nat.min_eq_left h]
  · rw [Nat.min_eq_right h, List.take_length, List.take_of_length_le h]
theorem cut_loV (xs : List V) (k : Nat) : cutV xs (some (k : Int)) none = xs.drop k := by
  unfold cutV
  rw [HT.sIx_none, HT.sIx_nat]
  rcases Nat.le_total k xs.length with h | h
  · rw [Nat.min_eq_left h, List.take_of_length_le (by rw [List.length_drop]; omega)]
  · rw [Nat.min_eq_right h, List.drop_length, List.drop_of_length_le h, List.take_nil]
/-- a small thing -/
def lf (d : PyData) : Bool := PyData.showable d && PyData.leavesShort 40 d && decide (d.depth ≤ 2) && decide (d.bulk ≤ 20)
def RowOk (M : Nat) (r : PyData) : Prop := (∃ es, isSeq r = some es ∧ es.length ≤ M ∧ ∀ e ∈ es, lf e = true) ∨ (lf r = true ∧ isSeq r = none)
structure SzR (N M : Nat) (rs : List PyData) : Prop where
  len : rs.length ≤ N
  row : ∀ r ∈ rs, RowOk M r
theorem RowOk.mono {M M' : Nat} {r : PyData} (h : RowOk M r) (l : M ≤ M') : RowOk M' r := h.imp (fun ⟨es, e, h1, h2⟩ => ⟨es, e, Nat.le_trans h1 l, h2⟩) id
theorem SzR.few {N M : Nat} {rs : List PyData} (h : SzR N M rs) (hN : N ≤ 30) (hM : M ≤ 25) : Few rs := by
  refine ⟨by have := h.len; omega, ?_⟩
  have go : ∀ rs : List PyData, (∀ r ∈ rs, RowOk M r) → (wholeD rs).length ≤ rs.length * 25 := by
    intro rs
    induction rs with
    | nil => exact fun _ => Nat.le_refl _
    | cons r rs ih =>
      intro hr
      have h1 := ih fun x hx => hr x (List.mem_cons_of_mem _ hx)
      have h2 : (itemsD r).length ≤ 25 := by
        rcases hr r List.mem_cons_self with ⟨es, e, he, _⟩ | ⟨_, he⟩
        · unfold itemsD
          rw [e]
          show es.length ≤ 25
          omega
        · unfold itemsD
          rw [he]
          exact Nat.zero_le _
      show (itemsD r ++ wholeD rs).length ≤ (rs.length + 1) * 25
      rw [List.length_append]
      omega
  have := go rs h.row
  have := h.len
  omega
/-- rows in a list that is not the pen's -/
def RowsAt (H : Hp) (p a : Addr) (rs : List PyData) : Prop := ∃ xs, H a = some (.lst xs) ∧ a ≠ p ∧ DhAll (off p H) xs rs ∧ (sysModules ≠ a ∨ ∀ r ∈ rs, r.hasDict = false)
theorem RowsAt.but {H H' : Hp} {p a : Addr} {rs : List PyData} (h : RowsAt H p a rs) (b : But H H' p) : RowsAt H' p a rs := by
  obtain ⟨xs, h1, h2, h3, h4⟩ := h
  exact ⟨xs, b _ _ h2 h1, h2, h3.same (off_but b), h4⟩
theorem RowsAt.same {H H' : Hp} {p a : Addr} {rs : List PyData} (h : RowsAt H p a rs) (s : Same H H') : RowsAt H' p a rs := h.but (.of s)
/-- z + xs[j:], z a list: what is behind it -/
theorem tail_rd {K : PySem.W.Frag} {σ : L2.St} {H : Hp} {z a : Addr} {ys xs : List V} {j v : Nat} {tl : TE} {Q : VK} (hv : σ[v]? = some (some (.ref a))) (hz : H z = some (.lst ys)) (ha : H a = some (.lst xs)) (hl : ys.length + xs.length ≤ 2000)
    (rtl : ∀ H' (Q' : VK), Q' (.int (j : Nat)) H' → tl σ H' Q') (k : ∀ q H', Same H H' → H q = none → sysModules ≠ q → H' q = some (.lst (ys ++ xs.drop j)) → Q (.ref q) H') :
    tSl (rSlL K) (tVar v) (tPart tl) tNoPart σ H fun w H4 => rCatN (.ref z) w H4 Q := by
  refine ⟨_, hv, rtl _ _ ⟨_, rfl, a, xs, rfl, SqL.of ha, fun q3 hq3 => ?_⟩⟩
  have s1 := same_at (o := .lst (cutV xs (some ((j : Nat) : Int)) none)) hq3
  refine ⟨z, q3, ys, _, rfl, rfl, s1 _ _ hz, upd_same, ?_, fun q4 hq4 hn => ?_⟩
  · have := cutV_length xs (some ((j : Nat) : Int)) none
    exact Nat.le_trans (show _ ≤ 2000 by omega) (by decide)
  · refine k q4 _ (s1.trans (same_at hq4)) (s1.free hq4) hn ?_
    rw [upd_same, cut_loV]
theorem SzR.cut {N M N' M' k j : Nat} {rs mid : List PyData} (h : SzR N M rs) (hm : ∀ r ∈ mid, RowOk M' r) (hMM : M ≤ M') (hl : (rs.take k).length + mid.length + (rs.drop j).length ≤ N') : SzR N' M' (rs.take k ++ mid ++ rs.drop j) := by
  refine ⟨by rw [List.length_append, List.length_append]; exact hl, fun r hr => ?_⟩
  rcases List.mem_append.mp hr with hr | hr
  · rcases List.mem_append.mp hr with hr | hr
    · exact (h.row r (List.mem_of_mem_take hr)).mono hMM
    · exact hm r hr
  · exact (h.row r (List.mem_of_mem_drop hr)).mono hMM
theorem OddX.dh {H : Hp} {p : Addr} {x : V} {ps : List V} (h : OddX H p x) (hp : H p = some (.lst ps)) : ∃ d, Dh (off p H) x d ∧ lf d = true := by
  cases h with
  | flat h =>
    unfold oddF at h
    simp only [List.mem_cons, List.not_mem_nil, or_false] at h
    rcases h with rfl | rfl | rfl | rfl | rfl | rfl | rfl | rfl | rfl
    · exact ⟨_, .non, by decide +kernel⟩
    · exact ⟨_, .int _, by decide +kernel⟩
    · exact ⟨_, .bl _, by decide +kernel⟩
    · exact ⟨_, .str _, by decide +kernel⟩
    · exact ⟨_, .str _, by decide +kernel⟩
    · exact ⟨_, .str _, by decide +kernel⟩
    · exact ⟨_, .str _, by decide +kernel⟩
    · exact ⟨_, .int _, by decide +kernel⟩
    · exact ⟨_, .str _, by decide +kernel⟩
  | tup h => exact ⟨_, .tup (off_at (ne_of h hp (by intro z; cases z)) h) (.cons (.str _) .nil), by decide +kernel⟩
  | lst h n m => exact ⟨_, .lst m (off_at n h) (.cons (.str _) .nil), by decide +kernel⟩
  | dic h => exact ⟨_, .dic (off_at (ne_of h hp (by intro z; cases z)) h), by decide +kernel⟩
/-- the rows of a list that pass a test -/
theorem lc_filt {K : PySem.W.Frag} {a D v : Addr} {xs : List V} {rs : List PyData} {H1 G0 : Hp} {σ : L2.St} {tt : TT} {Qd : Hp → Prop} {vs : List Nat} (f : PyData → Bool) (ha : H1 a = some (.lst xs)) (hx : DhAll G0 xs rs) (hD : H1 D = none) (h60 : xs.length ≤ 60)
    (hw : ∀ x, wipe ((wipe σ vs).set v (some x)) vs = wipe σ vs) (hv : ∀ x, ((wipe σ vs).set v (some x))[v]? = some (some x))
    (ht : ∀ x r H', Dh G0 x r → r ∈ rs → Same H1 H' → ∀ Rb : Bool → Hp → Prop, (∀ H'', Same H' H'' → Rb (f r) H'') → tt ((wipe σ vs).set v (some x)) H' Rb)
    (k : ∀ H' ys, Same H1 H' → H' D = some (.lst ys) → DhAll G0 ys (rs.filter f) → Qd H') :
    ∃ W : Nat → Nat → Hp → Prop, (∃ m, W 0 m (upd H1 D (.lst []))) ∧ ∀ i m H, W i m H →
      ((Itl K a).stop i H ∧ Qd H) ∨ ((Itl K a).go i H ∧ ∃ Nx : Hp → Prop, (∀ H', Nx H' → ∃ m', m' < m ∧ W (i + 1) m' H') ∧ ∀ x H', (Itl K a).yld i H x H' → gName v x (wipe σ vs) H' fun σ2 H2 => wipe σ2 vs = wipe σ vs ∧ tt σ2 H2 fun b H3 =>
        if b = true then tVar v σ2 H3 fun y H4 => ∃ acc, H4 D = some (.lst acc) ∧ acc.length < sizeLine ∧ Nx (upd H4 D (.lst (acc ++ [y]))) else Nx H3) := by
  have hxl := hx.len
  refine lc_it (walk_list (K := K) (a := a) (xs := xs)) (fun i H' => Same H1 H' ∧ ∃ ys, H' D = some (.lst ys) ∧ ys.length ≤ i ∧ DhAll G0 ys ((rs.take i).filter f)) ⟨same_at hD, [], upd_same, Nat.le_refl _, .nil⟩ (fun i H' _ p => SqL.of (p.1 _ _ ha)) ?_ ?_
  · rintro i x Ho Ha hi ⟨sa, ys, da, hl, hd⟩ ⟨rfl, hxi⟩
    obtain ⟨r, er, hr'⟩ := hx.at_ hxi
    have etk : (rs.take (i + 1)).filter f = (rs.take i).filter f ++ if f r = true then [r] else [] := by
      rw [List.take_add_one, er, Option.toList_some, List.filter_append]
      congr 1
      by_cases e : f r = true
      · rw [if_pos e, List.filter_cons_of_pos e]; rfl
      · rw [if_neg e, List.filter_cons_of_neg e]; rfl
    refine ⟨hw _, ht x r _ hr' (List.mem_of_getElem? er) sa _ fun H3 s3 => ?_⟩
    by_cases e : f r = true
    · rw [e, if_pos rfl]
      refine ⟨_, hv _, _, s3 _ _ da, Nat.lt_of_lt_of_le (show _ < 2000 by omega) (by decide), fun c u q => ?_, _, upd_same, by rw [List.length_append, List.length_singleton]; omega, ?_⟩
      · rw [upd_ne (ne_of_none q hD)]
        exact s3 _ _ (sa _ _ q)
      · rw [etk, if_pos e]
        exact hd.append (.cons hr' .nil)
    · rw [show f r = false by simpa using e, if_neg (by decide)]
      refine ⟨sa.trans s3, ys, s3 _ _ da, by omega, ?_⟩
      rw [etk, if_neg e, List.append_nil]
      exact hd
  · rintro H' ⟨s, ys, d, _, h⟩
    rw [hxl, List.take_length] at h
    exact k _ _ s d h
end Sj
namespace Sj
open PySem L2 Sup StK Own Shw Exg Grd KepE
open NdefX (NF NScope ncx envF startF nscope_by)
open C8 (pss_cut tCut)
/-! k10: _law_bent -/
abbrev sBen : Stmt := top 41
abbrev nBen : List Str := ["_law_pen_here", "_law_bare_here", "_law_row", "_law_way", "_law_tags_here", "_law_at", "_law_odd_here", "_law_rest", "_law_block"]
theorem scBen : FnScope nBen ["_law_pen_here", "_law_bare_here", "_law_row"] (defScope sBen) := ⟨rfl, rfl, rfl, by decide +kernel, rfl, by decide +kernel, by decide +kernel⟩
/-- a def of the module, by its name -/
def Fi (P : Program) (w : World) (K : PySem.W.Frag) (mg : Str → Option Value) (base : Heap) (x : Str) (k : Nat) (ps : List Str) (sp : Sp) : Prop := ∃ f fd, mg x = some (.ref f) ∧ PySem.W.keepIn K (.ref f) = true ∧ Binds K fd ps [] ∧ FnOk P w K mg base CX0 k f fd ps sp
def SqR (rs : List PyData) : Prop := ∀ r ∈ rs, (isSeq r).isSome = true
def spBen : Sp := fun vs H Q _ => ∃ (p l : Addr) (cs : List Int) (n : Nat) (b a : Addr) (d : BareD) (N M : Nat) (rs : List PyData), vs = [.ref p, .ref b, .ref a] ∧ Pen H p l cs n ∧ BareAt H b d p ∧ d.ok ∧ RowsAt H p a rs ∧ SzR N M rs ∧ SqR rs ∧ N ≤ 24 ∧ M ≤ 24 ∧ 1 ≤ M ∧ n < 80000 ∧
  ∀ a' rs' H', RowsAt H' p a' rs' → SzR (N + 1) (M + 1) rs' → Pen H' p l cs (n + 6) → But H H' p → Q (.ref a') H'
structure BeT (P : Program) (w : World) (K : PySem.W.Frag) (mg : Str → Option Value) (base : Heap) : Prop where
  draw : Fi P w K mg base "_law_draw" 1 ["_law_pen_here", "_law_many"] spDraw
  pick : Fi P w K mg base "_law_pick" 2 ["_law_pen_here", "_law_some"] spPick
  odd : Fi P w K mg base "_law_odd" 3 ["_law_pen_here"] spOdd
  mms : Fi P w K mg base "_law_members" 2 ["_law_bare_here"] spMms
  len : mg "len" = none
  isi : mg "isinstance" = none
  list : mg "list" = none
def ttRe (K : PySem.W.Frag) : TT := tAnd (tTest (tOp (rInZ K true) (tC (.str "ground")) (tVar 8))) (tTest (tOp (rInZ K true) (tC (.str "power")) (tVar 8)))
def fRe (r : PyData) : Bool := !(itemsD r).any (isZ "ground") && !(itemsD r).any (isZ "power")
/-- the odd rows -/
def rowW (l1 t1 d1 d2 : Addr) : List V := [.non, .ref l1, .ref t1, .str "a", .str "ground", .int 3, .ref d1, .ref d2, .bl true]
theorem rowW_data {H : Hp} {p l1 t1 d1 d2 : Addr} {x : V} (hx : x ∈ rowW l1 t1 d1 d2) (h1 : H l1 = some (.lst [])) (n1 : l1 ≠ p) (m1 : sysModules ≠ l1) (h2 : H t1 = some (.tup [])) (n2 : t1 ≠ p) (h3 : H d1 = some (.dK [])) (n3 : d1 ≠ p) (h4 : H d2 = some (.dK [(Sum.inr "a", .int 1)])) (n4 : d2 ≠ p) : ∃ od, Dh (off p H) x od ∧ RowOk 0 od := by
  unfold rowW at hx
  simp only [List.mem_cons, List.not_mem_nil, or_false] at hx
  have nil_ : ∀ e ∈ ([] : List PyData), lf e = true := fun _ h => by cases h
  rcases hx with rfl | rfl | rfl | rfl | rfl | rfl | rfl | rfl | rfl
  · exact ⟨_, .non, .inr ⟨by decide +kernel, rfl⟩⟩
  · exact ⟨_, .lst m1 (off_at n1 h1) .nil, .inl ⟨[], rfl, Nat.le_refl _, nil_⟩⟩
  · exact ⟨_, .tup (off_at n2 h2) .nil, .inl ⟨[], rfl, Nat.le_refl _, nil_⟩⟩
  · exact ⟨_, .str _, .inr ⟨by decide +kernel, rfl⟩⟩
  · exact ⟨_, .str _, .inr ⟨by decide +kernel, rfl⟩⟩
  · exact ⟨_, .int _, .inr ⟨by decide +kernel, rfl⟩⟩
  · exact ⟨_, .dic (off_at n3 h3), .inr ⟨by decide +kernel, rfl⟩⟩
  · exact ⟨_, .di1 (off_at n4 h4), .inr ⟨by decide +kernel, rfl⟩⟩
  · exact ⟨_, .bl _, .inr ⟨by decide +kernel, rfl⟩⟩
theorem pool_lf : ∀ z ∈ poolS, lf (.str z) = true := List.all_eq_true.mp (by decide +kernel)
theorem mem_lf {d : BareD} (ok : d.ok) {z : Str} (hz : z ∈ d.ds ++ d.ls ++ railsZ d.g d.r) : lf (.str z) = true := by
  rcases List.mem_append.mp hz with hz | hz
  · exact pool_lf z (ok.po z hz)
  · have : ∀ g r : Bool, ∀ z ∈ railsZ g r, lf (.str z) = true := fun g r => by
      cases g <;> cases r <;> exact List.all_eq_true.mp (by decide +kernel)
    exact this _ _ z hz
theorem one_merge : mergeK [] [((Sum.inr "a" : Key), V.int 1)] = [((Sum.inr "a" : Key), V.int 1)] := by
  unfold mergeK putK
  simp +decide
section
variable {P : Program} {w : World} {K : PySem.W.Frag} {mg : Str → Option Value} {base : Heap}
theorem ok_ben {f : Addr} {fd : FuncData} (F : Fun K "_law_bent" "_law_bent" sBen f fd) (T : BeT P w K mg base) : FnOk P w K mg base CX0 4 f fd ["_law_pen_here", "_law_bare_here", "_law_row"] spBen := by
  obtain ⟨fD, fdD, mD, kD, bD, GD⟩ := T.draw
  obtain ⟨fP, fdP, mP, kP, bP, GP⟩ := T.pick
  obtain ⟨fO, fdO, mO, kO, bO, GO⟩ := T.odd
  obtain ⟨fM, fdM, mM, kM, bM, GM⟩ := T.mms
  refine F.ok scBen (fun vs H Q E h => ?_) (fun cdv A outer s H vs Q E hr h => ?_)
  · obtain ⟨p, l, cs, n, b, a, d, N, M, rs, rfl, _⟩ := h
    rfl
  · obtain ⟨p, l, cs, n, b, a, d, N, M, rs, rfl, hP, hB, ok, hR, hZ, hS, hN, hM, h1M, hn, k⟩ := h
    have hr1 := hr.mono (show 1 ≤ 3 by decide)
    have hr2 := hr.mono (show 2 ≤ 3 by decide)
    refine ⟨_, pss_cons (ps_par (i := 3) (j := 4) (by rfl) scBen.nd rfl rfl (by decide) rfl rfl (pa_cons (pe_call GD hr1 rfl mD kD bD .nil pass0 (pa_cons (pv 0) (pa_cons pe_int pa_nil))) (pa_cons (pe_call GM hr2 rfl mM kM bM .nil pass0 (pa_cons (pv 1) pa_nil)) pa_nil)) (by rfl))
      (pss_cons (ps_set (i := 5) scBen.nd rfl (Or.inl rfl) (pe_call GD hr1 rfl mD kD bD .nil pass0 (pa_cons (pv 0) (pa_cons (pe_op op_add (pe_callB call_len_seq (by rfl) T.len PySem.boot_len (pa_cons (pv 2) pa_nil)) pe_int) pa_nil))))
      (pss_cut (ps_set (i := 6) scBen.nd rfl (Or.inl rfl) (pe_call GP hr2 rfl mP kP bP .nil pass0 (pa_cons (pv 0) (pa_cons (pe_lst (pa_cons (pe_call GO hr rfl mO kO bO .nil pass0 (pa_cons (pv 0) pa_nil)) (pa_cons pe_str (pa_cons pe_str (pa_cons pe_str pa_nil))))) pa_nil))))
      (pss_cons (ps_if (pt_cmpR op_eq (pv 3) pe_int (nomark _)) (pss_one (ps_ret (pe_op op_catN (pe_op op_cat (pe_slice sl_list (pv 2) po_none (po_some (pv 5))) (pe_lst (pa_cons (pe_call GP hr2 rfl mP kP bP .nil pass0 (pa_cons (pv 0) (pa_cons (pe_lst (pa_cons pe_non (pa_cons (pe_lstN pa_nil) (pa_cons (pe_tup pa_nil) (pa_cons pe_str (pa_cons pe_str (pa_cons pe_int (pa_cons pe_dnewK (pa_cons (pe_disp (pps_cons pe_str pe_int pps_nil) (by rfl) (by rfl) (fun z => by cases z) (by decide)) (pa_cons pe_bl pa_nil)))))))))) pa_nil))) pa_nil))) (pe_slice sl_list (pv 2) (po_some (pv 5)) po_none)))) pss_nil)
      (pss_cons (ps_if (pt_cmpR op_eq (pv 3) pe_int (nomark _)) (pss_one (ps_ret (pe_op op_catN (pe_op op_cat (pe_slice sl_list (pv 2) po_none (po_some (pv 5))) (pe_lst (pa_cons (pe_lstN (pa_cons (pv 6) pa_nil)) pa_nil))) (pe_slice sl_list (pv 2) (po_some (pv 5)) po_none)))) pss_nil)
      (pss_cut (ps_if (PW.pt (pw_and (pt_cmpR op_eq (pv 3) pe_int (nomark _)) (pw_and1 (pt_cmpR (op_neNil hr.units) (pv 4) (pe_lst pa_nil) (nomark _))))) (pss_one (ps_ret (pe_op op_catN (pe_op op_cat (pe_slice sl_list (pv 2) po_none (po_some (pv 5))) (pe_lst (pa_cons (pe_tup (pa_cons (pe_call GP hr2 rfl mP kP bP .nil pass0 (pa_cons (pv 0) (pa_cons (pv 4) pa_nil))) pa_nil)) pa_nil))) (pe_slice sl_list (pv 2) (po_some (pv 5)) po_none)))) pss_nil)
      (pss_cut (ps_if (PW.pt (pw_and (pt_cmpR op_eq (pv 3) pe_int (nomark _)) (pw_and (pt_cmpR op_lt (pv 5) (pe_callB call_len_seq (by rfl) T.len PySem.boot_len (pa_cons (pv 2) pa_nil)) (nomark _)) (pw_and1 (pt_val (pe_callB call_isi (by rfl) T.isi (by decide +kernel) (pa_cons (pe_ix ix_list (pv 2) (pv 5) (fun _ _ => rfl)) (pa_cons (pe_bltn (by rfl) T.list (by decide +kernel) (v := .ty "list") rfl) pa_nil))))))))
        (pss_one (ps_ret (pe_op op_catN (pe_op op_cat (pe_slice sl_list (pv 2) po_none (po_some (pv 5))) (pe_lst (pa_cons (pe_op op_catN (pe_ix ix_list (pv 2) (pv 5) (fun _ _ => rfl)) (pe_lst (pa_cons (pv 6) pa_nil))) pa_nil))) (pe_slice sl_list (pv 2) (po_some (pe_op op_add (pv 5) pe_int)) po_none)))) pss_nil)
      (pss_cons (ps_if (pt_cmpR op_eq (pv 3) pe_int (nomark _)) (pss_cons (ps_setLc (i := 7) (te := tVar 8) (tt := ttRe K) (own := [("_law_block", 8)]) (g := gName 8) rfl scBen.nd rfl rfl (sw_true rfl rfl rfl (by decide +kernel)) (pi_list (pv 2)) (blkOk_by (N := nBen) (sc := defScope sBen) (by decide +kernel)) (fun _ _ _ _ _ => pg_name (i := 8) scBen.nd rfl (Or.inl rfl))
            (fun _ _ _ _ _ => pts_one (PW.pt (pw_and (pt_cmpR (op_notInZ hr.in1.units0) pe_str (pv 8) (by rfl)) (pw_and1 (pt_cmpR (op_notInZ hr.in1.units0) pe_str (pv 8) (by rfl)))))) (fun _ _ _ _ _ => pv 8))
          (pss_one (ps_ret (pe_op op_catN (pv 7) (pe_lst (pa_cons (pe_lstN (pa_cons pe_str (pa_cons pe_str pa_nil))) pa_nil)))))) pss_nil)
      (pss_one (ps_ret (pv 2)))))))))), ?_⟩
    obtain ⟨xs, ha, nap, hx, hnm⟩ := id hR
    have hxl := hx.len
    have hZl := hZ.len
    refine ⟨_, rfl, p, l, cs, n, 6, rfl, hP, by decide, by decide, by omega, fun way i1 g1 H1 w0 w6 i10 in1 hp1 b1 => ?_⟩
    have P1 := hP.next i10 in1 hp1 b1
    refine ⟨_, rfl, b, d, p, rfl, hB.but hP b1, ok, fun zs tg H2 hzs hso htg0 htg s12 => ⟨_, _, rfl, ?_⟩⟩
    have P2 := P1.same s12
    have b02 := b1.same s12
    have ntg : tg ≠ p := nep P1 htg0
    have ha2 := b02 _ _ nap ha
    refine ⟨_, rfl, _, rfl, a, _, rfl, .inl (SqL.of ha2), _, _, rfl, rfl, p, l, cs, n + 1, _, rfl, P2, by omega, by omega, by omega, fun at_ i2 g2 H3 a0 a1 i20 in2 hp3 b3 => ?_⟩
    have P3 := P2.next i20 in2 hp3 b3
    have b03 := b02.trans b3
    obtain ⟨k0, rfl⟩ : ∃ k0 : Nat, at_ = (k0 : Int) := ⟨at_.toNat, by omega⟩
    have hk0 : k0 ≤ xs.length := by omega
    -- odd
    refine ⟨fun σ H' => (∃ ov, σ = ([some (.ref p), some (.ref b), some (.ref a), some (.int way), some (.ref tg), some (.int (k0 : Int)), some ov, none, none] : List (Option V)) ∧ ∃ od, Dh (off p H') ov od ∧ lf od = true) ∧ Pen H' p l cs (n + 4) ∧ But H H' p ∧ H' tg = some (.lst (strv zs)), ?_, ?_⟩
    · refine ⟨_, rfl, _, rfl, p, l, cs, n + 2, rfl, P3, by omega, fun x H4 hox P4 b4 => ⟨by show 4 ≤ sizeLine; decide, fun u hu => ?_⟩⟩
      obtain ⟨X, eX⟩ : ∃ X : List V, X = [x, .str "ground", .str "power", .str "other"] := ⟨_, rfl⟩
      rw [← eX]
      have s5 := same_at (o := .lst X) hu
      refine ⟨p, l, u, cs, n + 3, X, rfl, P4.same s5, upd_same, nep P4 hu, by rw [eX]; show 0 < 4; decide, by rw [eX]; show 4 < 1000; decide, by omega, fun j y H5 hj P5 b5 => ?_⟩
      have b45 := (But.of s5 (p := p)).trans b5
      refine ⟨⟨y, rfl, ?_⟩, P5, (b03.trans b4).trans b45, ((b3.trans b4).trans b45) _ _ ntg htg⟩
      obtain ⟨ps5, hp5⟩ := P5.at'
      obtain ⟨od, hod, hlf⟩ := OddX.dh ((hox.same s5).but (P4.same s5) b5) hp5
      rw [eX] at hj
      match j, hj with
      | 0, hj => rw [← Option.some.inj hj]; exact ⟨od, hod, hlf⟩
      | 1, hj => rw [← Option.some.inj hj]; exact ⟨_, .str _, by decide +kernel⟩
      | 2, hj => rw [← Option.some.inj hj]; exact ⟨_, .str _, by decide +kernel⟩
      | 3, hj => rw [← Option.some.inj hj]; exact ⟨_, .str _, by decide +kernel⟩
    rintro σ H4 ⟨⟨ov, rfl, od, hod, hlf⟩, P4, b04, htg4⟩
    clear P3 P2 P1 b02 ha2 b03 htg
    have ha4 := b04 _ _ nap ha
    have hx4 := hx.same (off_but b04)
    have R4 := hR.but b04
    have tk : (xs.take k0).length = k0 := by rw [List.length_take]; omega
    have rtk : (rs.take k0).length = k0 := by rw [List.length_take]; omega
    have rdr : ∀ j, (rs.drop j).length = rs.length - j := fun j => List.length_drop
    have done : ∀ {q : Addr} {H' : Hp} {n' : Nat} {ys : List V} {ds : List PyData}, Pen H' p l cs n' → n' ≤ n + 6 → But H H' p → q ≠ p → sysModules ≠ q → H' q = some (.lst ys) → DhAll (off p H') ys ds → SzR (N + 1) (M + 1) ds → Q (.ref q) H' := fun P' hn' b' nq hm hq hd hz => k _ _ _ ⟨_, hq, nq, hd, .inl hm⟩ hz (P'.mono hn') b'
    have whole : Q (.ref a) H4 := k a rs H4 R4 ⟨by omega, fun r hr' => (hZ.row r hr').mono (by omega)⟩ (P4.mono (by omega)) b04
    -- way 0
    refine ⟨_, rfl, rfl, _, rfl, ?_⟩
    by_cases hw0 : way = 0
    · rw [decide_eq_true (show V.int way = V.int 0 by rw [hw0])]
      refine iteT ?_
      refine ⟨_, rfl, _, rfl, _, rfl, a, xs, rfl, SqL.of ha4, fun q1 hq1 => ?_⟩
      have s1 := same_at (o := .lst (cutV xs none (some (k0 : Int)))) hq1
      rw [cut_hiV] at s1 ⊢
      have nq1 := nep P4 hq1
      refine ⟨_, rfl, by show 0 ≤ sizeLine; decide, fun l1 hl1 hn1 => ⟨by show 0 ≤ sizeLine; decide, fun t1 ht1 => fun d1 hd1 => fun d2 hd2 => ⟨upd_same, [((Sum.inr "a" : Key), .int 1)], rfl, by show 1 ≤ 15; decide, ?_⟩⟩⟩
      rw [one_merge]
      refine ⟨by show 9 ≤ sizeLine; decide, fun u hu => ?_⟩
      have s2 := same_at (o := .lst []) hl1
      have s3 := same_at (o := .tup []) ht1
      have s4 := same_at (o := .dK []) hd1
      have s5 : Same (upd (upd (upd (upd H4 q1 (.lst (xs.take k0))) l1 (.lst [])) t1 (.tup [])) d1 (.dK [])) (upd (upd (upd (upd (upd (upd H4 q1 (.lst (xs.take k0))) l1 (.lst [])) t1 (.tup [])) d1 (.dK [])) d2 (.dK [])) d2 (.dK [((Sum.inr "a" : Key), .int 1)])) := fun c o e => by
        rw [upd_ne (ne_of_none e hd2), upd_ne (ne_of_none e hd2)]
        exact e
      have s6 := same_at (o := .lst (rowW l1 t1 d1 d2)) hu
      have n2 := nep (P4.same s1) hl1
      have n3 := nep ((P4.same s1).same s2) ht1
      have n4 := nep (((P4.same s1).same s2).same s3) hd1
      have n5 := nep ((((P4.same s1).same s2).same s3).same s4) hd2
      have n6 := nep (((((P4.same s1).same s2).same s3).same s4).same s5) hu
      have e1 := s6 _ _ (s5 _ _ (s4 _ _ (s3 _ _ (s2 _ _ (upd_same (H := H4) (a := q1) (o := .lst (xs.take k0)))))))
      have e2 := s6 _ _ (s5 _ _ (s4 _ _ (s3 _ _ (upd_same (a := l1) (o := .lst [])))))
      have e3 := s6 _ _ (s5 _ _ (s4 _ _ (upd_same (a := t1) (o := .tup []))))
      have e4 := s6 _ _ (s5 _ _ (upd_same (a := d1) (o := .dK [])))
      have e5 := s6 _ _ (upd_same (a := d2) (o := .dK [((Sum.inr "a" : Key), V.int 1)]))
      have s16 := s1.trans (s2.trans (s3.trans (s4.trans (s5.trans s6))))
      have e6 := upd_same (H := upd (upd (upd (upd (upd (upd H4 q1 (.lst (xs.take k0))) l1 (.lst [])) t1 (.tup [])) d1 (.dK [])) d2 (.dK [])) d2 (.dK [((Sum.inr "a" : Key), .int 1)])) (a := u) (o := .lst (rowW l1 t1 d1 d2))
      obtain ⟨H5, eH⟩ : ∃ H5, H5 = upd (upd (upd (upd (upd (upd (upd H4 q1 (.lst (xs.take k0))) l1 (.lst [])) t1 (.tup [])) d1 (.dK [])) d2 (.dK [])) d2 (.dK [((Sum.inr "a" : Key), .int 1)])) u (.lst (rowW l1 t1 d1 d2)) := ⟨_, rfl⟩
      rw [← eH] at s16 e1 e2 e3 e4 e5 e6
      have eH' := eH
      unfold rowW at eH'
      show _
      rw [← eH']
      have P5 := P4.same s16
      refine ⟨p, l, u, cs, _, rowW l1 t1 d1 d2, rfl, P5, e6, n6, by show 0 < 9; decide, by show 9 < 1000; decide, by omega, fun j x H6 hj P6 b6 => ⟨by show 1 ≤ sizeLine; decide, fun m hm => ?_⟩⟩
      have e16 := b6 _ _ nq1 e1
      have ha6 := b6 _ _ nap (s16 _ _ ha4)
      have s7 := same_at (o := .lst [x]) hm
      refine ⟨q1, m, _, _, rfl, rfl, s7 _ _ e16, upd_same, Nat.le_trans (show _ ≤ 100 by simp only [List.length_cons, List.length_nil]; omega) (by decide), fun z hz => ?_⟩
      have s8 := same_at (o := .lst (xs.take k0 ++ [x])) hz
      have s78 := s7.trans s8
      refine tail_rd (j := k0) rfl upd_same (s78 _ _ ha6) (by rw [List.length_append, List.length_singleton]; omega) (fun H' Q' q => ⟨_, rfl, q⟩) fun q4 H8 s9 hq4 hn4 hq => ?_
      have s79 := s78.trans s9
      obtain ⟨rd, hrd, hlr⟩ := rowW_data (List.mem_of_getElem? hj) (b6 _ _ n2 e2) n2 hn1 (b6 _ _ n3 e3) n3 (b6 _ _ n4 e4) n4 (b6 _ _ n5 e5) n5
      have b08 := ((b04.same s16).trans b6).same s79
      refine done (P6.same s79) (by omega) b08 (nep (P6.same s78) hq4) hn4 hq ?_ (hZ.cut (mid := [rd]) (M' := M + 1) (k := k0) (j := k0) (fun r hr' => by rw [List.mem_singleton.mp hr']; exact hlr.mono (Nat.zero_le _)) (by omega) (by rw [rtk, rdr]; simp only [List.length_cons, List.length_nil]; omega))
      have hx8 := hx.same (off_but b08)
      exact ((hx8.take k0).append (.cons (hrd.same (off_up s79)) .nil)).append (hx8.drop k0)
    rw [decide_eq_false (show ¬ V.int way = V.int 0 from fun z => hw0 (by injection z))]
    refine iteF ?_
    -- way 1
    refine ⟨_, rfl, rfl, _, rfl, ?_⟩
    by_cases hw1 : way = 1
    · rw [decide_eq_true (show V.int way = V.int 1 by rw [hw1])]
      refine iteT ?_
      refine ⟨_, rfl, _, rfl, _, rfl, a, xs, rfl, SqL.of ha4, fun q1 hq1 => ?_⟩
      have s1 := same_at (o := .lst (cutV xs none (some (k0 : Int)))) hq1
      rw [cut_hiV] at s1 ⊢
      refine ⟨_, rfl, by show 1 ≤ sizeLine; decide, fun y hy hny => ⟨by show 1 ≤ sizeLine; decide, fun m hm => ?_⟩⟩
      have s2 := same_at (o := .lst [ov]) hy
      have s3 := same_at (o := .lst [V.ref y]) hm
      refine ⟨q1, m, _, _, rfl, rfl, s3 _ _ (s2 _ _ upd_same), upd_same, Nat.le_trans (show _ ≤ 100 by simp only [List.length_cons, List.length_nil]; omega) (by decide), fun z hz => ?_⟩
      have s4 := same_at (o := .lst (xs.take k0 ++ [V.ref y])) hz
      have s14 := s1.trans (s2.trans (s3.trans s4))
      have ny := nep (P4.same s1) hy
      have ey := s4 _ _ (s3 _ _ (upd_same (a := y) (o := .lst [ov])))
      refine tail_rd (j := k0) rfl upd_same (s14 _ _ ha4) (by rw [List.length_append, List.length_singleton]; omega) (fun H' Q' q => ⟨_, rfl, q⟩) fun q4 H8 s9 hq4 hn4 hq => ?_
      have s19 := s14.trans s9
      have b08 := b04.same s19
      have hx8 := hx.same (off_but b08)
      refine done (P4.same s19) (by omega) b08 (nep (P4.same s14) hq4) hn4 hq ?_ (hZ.cut (mid := [.list [od]]) (M' := M + 1) (k := k0) (j := k0) (fun r hr' => by rw [List.mem_singleton.mp hr']; exact .inl ⟨[od], rfl, by simp only [List.length_cons, List.length_nil]; omega, fun e he => by rw [List.mem_singleton.mp he]; exact hlf⟩) (by omega) (by rw [rtk, rdr]; simp only [List.length_cons, List.length_nil]; omega))
      exact ((hx8.take k0).append (.cons (.lst hny (off_at ny (s9 _ _ ey)) (.cons (hod.same (off_up s19)) .nil)) .nil)).append (hx8.drop k0)
    rw [decide_eq_false (show ¬ V.int way = V.int 1 from fun z => hw1 (by injection z))]
    refine iteF ?_
    -- way 2
    refine ⟨fun σ H' => σ = ([some (.ref p), some (.ref b), some (.ref a), some (.int way), some (.ref tg), some (.int (k0 : Int)), some ov, none, none] : List (Option V)) ∧ Same H4 H', ?_, ?_⟩
    · refine ⟨_, rfl, rfl, _, rfl, ?_⟩
      by_cases hw2 : way = 2
      case neg =>
        rw [decide_eq_false (show ¬ V.int way = V.int 2 from fun z => hw2 (by injection z))]
        exact iteF (iteF ⟨rfl, Same.refl _⟩)
      rw [decide_eq_true (show V.int way = V.int 2 by rw [hw2])]
      refine iteT ⟨_, rfl, by show 0 ≤ sizeLine; decide, fun e he => ?_⟩
      have s0 := same_at (o := .lst []) he
      refine ⟨tg, e, strv zs, rfl, rfl, s0 _ _ htg4, upd_same, _, rfl, ?_⟩
      cases hE : (strv zs).isEmpty with
      | true => exact iteF ⟨rfl, s0⟩
      | false =>
        have zpos : 0 < zs.length := by
          cases zs with
          | nil => cases hE
          | cons _ _ => exact Nat.succ_pos _
        refine iteT ?_
        refine ⟨_, rfl, _, rfl, _, rfl, a, xs, rfl, SqL.of (s0 _ _ ha4), fun q1 hq1 => ?_⟩
        have s1 := same_at (o := .lst (cutV xs none (some (k0 : Int)))) hq1
        rw [cut_hiV] at s1 ⊢
        have s01 := s0.trans s1
        have P5 := P4.same s01
        have zl : (strv zs).length = zs.length := List.length_map _
        have z18 : zs.length ≤ 18 := by
          rw [hzs.length_eq, List.length_append, List.length_append]
          have := ok.le
          have := rails_le d.g d.r
          omega
        refine ⟨_, rfl, _, rfl, p, l, tg, cs, _, strv zs, rfl, P5, s01 _ _ htg4, ntg, by omega, by omega, by omega, fun j x H6 hj P6 b6 => ⟨by show 1 ≤ sizeLine; decide, fun y hy => ⟨by show 1 ≤ sizeLine; decide, fun m hm => ?_⟩⟩⟩
        obtain ⟨z, hzm, rfl⟩ : ∃ z ∈ zs, x = .str z := by
          obtain ⟨z, hz, e⟩ := List.mem_map.mp (List.mem_of_getElem? hj)
          exact ⟨z, hz, e.symm⟩
        have nq1 : q1 ≠ p := nep (P4.same s0) hq1
        have e1 := b6 _ _ nq1 (upd_same (H := upd H4 e (.lst [])) (a := q1) (o := .lst (xs.take k0)))
        have ha6 := b6 _ _ nap (s01 _ _ ha4)
        have s2 := same_at (o := .tup [V.str z]) hy
        have s3 := same_at (o := .lst [V.ref y]) hm
        refine ⟨q1, m, _, _, rfl, rfl, s3 _ _ (s2 _ _ e1), upd_same, Nat.le_trans (show _ ≤ 100 by simp only [List.length_cons, List.length_nil]; omega) (by decide), fun z' hz' => ?_⟩
        have s4 := same_at (o := .lst (xs.take k0 ++ [V.ref y])) hz'
        have s24 := s2.trans (s3.trans s4)
        have ny := nep P6 hy
        have ey := s4 _ _ (s3 _ _ (upd_same (a := y) (o := .tup [V.str z])))
        refine tail_rd (j := k0) rfl upd_same (s24 _ _ ha6) (by rw [List.length_append, List.length_singleton]; omega) (fun H' Q' q => ⟨_, rfl, q⟩) fun q4 H8 s9 hq4 hn4 hq => ?_
        have s29 := s24.trans s9
        have b08 := ((b04.same s01).trans b6).same s29
        have hx8 := hx.same (off_but b08)
        have lz := mem_lf ok (hzs.mem_iff.mp hzm)
        refine done (P6.same s29) (by omega) b08 (nep (P6.same s24) hq4) hn4 hq ?_ (hZ.cut (mid := [.tuple [.str z]]) (M' := M + 1) (k := k0) (j := k0) (fun r hr' => by rw [List.mem_singleton.mp hr']; exact .inl ⟨[.str z], rfl, by simp only [List.length_cons, List.length_nil]; omega, fun e he => by rw [List.mem_singleton.mp he]; exact lz⟩) (by omega) (by rw [rtk, rdr]; simp only [List.length_cons, List.length_nil]; omega))
        exact ((hx8.take k0).append (.cons (.tup (off_at ny (s9 _ _ ey)) (.cons (.str z) .nil)) .nil)).append (hx8.drop k0)
    rintro σ H5 ⟨rfl, s45⟩
    have P5 := P4.same s45
    have b05 := b04.same s45
    have ha5 := s45 _ _ ha4
    have hod5 := hod.same (off_up s45)
    have hx5 := hx.same (off_but b05)
    have whole5 : Q (.ref a) H5 := k a rs H5 (hR.but b05) ⟨by omega, fun r hr' => (hZ.row r hr').mono (by omega)⟩ (P5.mono (by omega)) b05
    clear P4 b04 ha4 hod whole hx4 R4 s45 htg4
    -- way 3
    refine ⟨fun σ H' => σ = ([some (.ref p), some (.ref b), some (.ref a), some (.int way), some (.ref tg), some (.int (k0 : Int)), some ov, none, none] : List (Option V)) ∧ H' = H5, ?_, ?_⟩
    · refine ⟨_, rfl, rfl, _, rfl, ?_⟩
      by_cases hw3 : way = 3
      case neg =>
        rw [decide_eq_false (show ¬ V.int way = V.int 3 from fun z => hw3 (by injection z))]
        exact iteF (iteF ⟨rfl, rfl⟩)
      rw [decide_eq_true (show V.int way = V.int 3 by rw [hw3])]
      refine iteT ⟨_, rfl, _, rfl, a, xs, rfl, .inl (SqL.of ha5), _, _, rfl, rfl, _, rfl, ?_⟩
      by_cases hlt : k0 < xs.length
      case neg =>
        rw [decide_eq_false (show ¬ (k0 : Int) < (xs.length : Int) by omega)]
        exact iteF (iteF ⟨rfl, rfl⟩)
      rw [decide_eq_true (show (k0 : Int) < (xs.length : Int) by omega)]
      refine iteT ?_
      have ex : xs[k0]? = some xs[k0] := List.getElem?_eq_getElem hlt
      obtain ⟨r, er, hr'⟩ := hx5.at_ ex
      obtain ⟨t, ty, _, k2, _⟩ := dq_ty ((hr'.same off_in).dq (K := K))
      refine ⟨_, rfl, _, rfl, a, xs, _, _, rfl, rfl, SqL.of ha5, atI_nat ex, _, _, .type t, .type "list", _, rfl, .ty _, ty, kit_ty k2, _, rfl, ?_⟩
      cases hl : isLstD r with
      | false => exact iteF ⟨rfl, rfl⟩
      | true =>
        refine iteT ?_
        obtain ⟨y, ys, es, ey, hyv, hdy, rfl⟩ : ∃ y ys es, xs[k0] = .ref y ∧ off p H5 y = some (.lst ys) ∧ DhAll (off p H5) ys es ∧ r = .list es := by
          generalize xs[k0] = xv at hr'
          cases hr' with
          | lst nm q d => exact ⟨_, _, _, rfl, q, d, rfl⟩
          | _ => cases hl
        rw [ey] at ex
        obtain ⟨hesl, hesf⟩ : es.length ≤ M ∧ ∀ e ∈ es, lf e = true := by
          rcases hZ.row _ (List.mem_of_getElem? er) with ⟨es', e, h1, h2⟩ | ⟨_, h2⟩
          · injection e with e
            subst e
            exact ⟨h1, h2⟩
          · cases h2
        have hyl := hdy.len
        refine ⟨_, rfl, _, rfl, _, rfl, a, xs, rfl, SqL.of ha5, fun q1 hq1 => ?_⟩
        have s1 := same_at (o := .lst (cutV xs none (some (k0 : Int)))) hq1
        rw [cut_hiV] at s1 ⊢
        refine ⟨_, rfl, _, rfl, a, xs, _, _, rfl, rfl, SqL.of (s1 _ _ ha5), atI_nat ex, _, rfl, by show 1 ≤ sizeLine; decide, fun m hm => ?_⟩
        have s2 := same_at (o := .lst [ov]) hm
        refine ⟨y, m, _, _, rfl, rfl, s2 _ _ (s1 _ _ (off_in _ _ hyv)), upd_same, Nat.le_trans (show _ ≤ 100 by simp only [List.length_cons, List.length_nil]; omega) (by decide), fun q2 hq2 hn2 => ⟨by show 1 ≤ sizeLine; decide, fun m2 hm2 => ?_⟩⟩
        have s3 := same_at (o := .lst (ys ++ [ov])) hq2
        have s4 := same_at (o := .lst [V.ref q2]) hm2
        refine ⟨q1, m2, _, _, rfl, rfl, s4 _ _ (s3 _ _ (s2 _ _ upd_same)), upd_same, Nat.le_trans (show _ ≤ 100 by simp only [List.length_cons, List.length_nil]; omega) (by decide), fun z hz => ?_⟩
        have s5 := same_at (o := .lst (xs.take k0 ++ [V.ref q2])) hz
        have s15 := s1.trans (s2.trans (s3.trans (s4.trans s5)))
        have nq2 := nep ((P5.same s1).same s2) hq2
        have eq2 := s5 _ _ (s4 _ _ (upd_same (a := q2) (o := .lst (ys ++ [ov]))))
        refine tail_rd (j := k0 + 1) rfl upd_same (s15 _ _ ha5) (by rw [List.length_append, List.length_singleton]; omega) (fun H' Q' q => ⟨_, rfl, _, _, rfl, rfl, q⟩) fun q4 H8 s9 hq4 hn4 hq => ?_
        have s19 := s15.trans s9
        have b08 := b05.same s19
        have hx8 := hx.same (off_but b08)
        have su := off_up (p := p) s19
        refine done (P5.same s19) (by omega) b08 (nep (P5.same s15) hq4) hn4 hq ?_ (hZ.cut (mid := [.list (es ++ [od])]) (M' := M + 1) (k := k0) (j := k0 + 1) (fun r hr' => by rw [List.mem_singleton.mp hr']; exact .inl ⟨es ++ [od], rfl, by rw [List.length_append, List.length_singleton]; omega, fun e he => by
          rcases List.mem_append.mp he with he | he
          · exact hesf e he
          · rw [List.mem_singleton.mp he]
            exact hlf⟩) (by omega) (by rw [rtk, rdr]; simp only [List.length_cons, List.length_nil]; omega))
        exact ((hx8.take k0).append (.cons (.lst hn2 (off_at nq2 (s9 _ _ eq2)) ((hdy.same su).append (.cons (hod5.same su) .nil))) .nil)).append (hx8.drop (k0 + 1))
    rintro σ H6 ⟨rfl, rfl⟩
    -- way 4
    refine ⟨_, rfl, rfl, _, rfl, ?_⟩
    by_cases hw4 : way = 4
    · rw [decide_eq_true (show V.int way = V.int 4 by rw [hw4])]
      refine iteT ?_
      refine ⟨_, rfl, a, rfl, ⟨_, SqL.of ha5⟩, fun D hD => ?_⟩
      refine lc_filt (v := 8) fRe ha5 hx5 hD (by omega) (fun x => rfl) (fun x => rfl) ?_ fun H7 ys s7 hD7 hys => ?_
      · intro x r H' hxr hrm s' Rb kR
        obtain ⟨es, he⟩ := Option.isSome_iff_exists.mp (hS r hrm)
        obtain ⟨y, ys, rfl, hq, hy⟩ := dh_seq hxr he
        have hq' : SqL K H' y ys ∨ SqT K H' y ys := hq.imp (fun q => SqL.of (s' _ _ (off_in _ _ q))) (fun q => SqT.of (s' _ _ (off_in _ _ q)))
        have hdq := ((hy.same off_in).same s').dq (K := K)
        have ei : itemsD r = es := by unfold itemsD; rw [he]; rfl
        have ef : fRe r = (!es.any (isZ "ground") && !es.any (isZ "power")) := by unfold fRe; rw [ei]
        refine ⟨_, rfl, y, _, ys, es, rfl, rfl, hq', hdq, _, rfl, ?_⟩
        rw [ef] at kR
        cases hg : es.any (isZ "ground") with
        | true =>
          rw [hg] at kR
          exact iteF (kR _ (Same.refl _))
        | false =>
          rw [hg] at kR
          exact iteT ⟨_, rfl, y, _, ys, es, rfl, rfl, hq', hdq, _, rfl, kR _ (Same.refl _)⟩
      · refine ⟨_, rfl, by show 2 ≤ sizeLine; decide, fun y hy hny => ⟨by show 1 ≤ sizeLine; decide, fun m hm => ?_⟩⟩
        have s8 := same_at (o := .lst [V.str "power", .str "ground"]) hy
        have s9 := same_at (o := .lst [V.ref y]) hm
        have fl : (rs.filter fRe).length ≤ rs.length := List.length_filter_le _ _
        have yl := hys.len
        refine ⟨D, m, _, _, rfl, rfl, s9 _ _ (s8 _ _ hD7), upd_same, Nat.le_trans (show _ ≤ 100 by simp only [List.length_cons, List.length_nil]; omega) (by decide), fun q4 hq4 hn4 => ?_⟩
        have s10 := same_at (o := .lst (ys ++ [V.ref y])) hq4
        have s79 := s7.trans (s8.trans s9)
        have s710 := s79.trans s10
        have ny := nep (P5.same s7) hy
        refine done (ds := rs.filter fRe ++ [.list [.str "power", .str "ground"]]) (P5.same s710) (by omega) (b05.same s710) (nep (P5.same s79) hq4) hn4 upd_same ?_ ⟨by rw [List.length_append, List.length_singleton]; exact Nat.le_trans (Nat.succ_le_succ fl) (Nat.succ_le_succ hZl), fun r hr' => ?_⟩
        · exact (hys.same (off_up s710)).append (.cons (.lst hny (off_at ny (s10 _ _ (s9 _ _ upd_same))) (.cons (.str _) (.cons (.str _) .nil))) .nil)
        · rcases List.mem_append.mp hr' with hr' | hr'
          · exact (hZ.row r (List.mem_filter.mp hr').1).mono (by omega)
          · rw [List.mem_singleton.mp hr']
            refine .inl ⟨[.str "power", .str "ground"], rfl, by show 2 ≤ M + 1; omega, fun e he => ?_⟩
            simp only [List.mem_cons, List.not_mem_nil, or_false] at he
            rcases he with rfl | rfl <;> decide +kernel
    rw [decide_eq_false (show ¬ V.int way = V.int 4 from fun z => hw4 (by injection z))]
    exact iteF ⟨_, rfl, whole5⟩
end
end Sj
namespace Sj
open PySem L2 Sup StK Own Shw Exg Grd KepE
open NdefX (NF NScope ncx envF startF nscope_by)
open C8 (pss_cut tCut)
/-! k10: _law_due -/
/-- the name at k stands before it too -/
def twT (zs : List Str) (k : Nat) : Bool := match zs[k]? with
  | some z => decide (z ∈ zs.take k)
  | none => false
theorem nodup_take (zs : List Str) : ((List.range zs.length).map (twT zs)).any id = !decide zs.Nodup := by
  refine Bool.eq_iff_iff.mpr ?_
  rw [List.any_map, List.any_eq_true, Bool.not_eq_true', decide_eq_false_iff_not]
  constructor
  · rintro ⟨k, hk, h⟩ hn
    have hk' : k < zs.length := List.mem_range.mp hk
    have h' : twT zs k = true := h
    unfold twT at h'
    rw [List.getElem?_eq_getElem hk'] at h'
    have hz : zs[k] ∈ zs.take k := of_decide_eq_true h'
    obtain ⟨i, hi, ei⟩ := List.getElem_of_mem hz
    rw [List.getElem_take] at ei
    rw [List.length_take] at hi
    exact List.pairwise_iff_getElem.mp hn i k (by omega) hk' (by omega) ei
  · intro hn
    refine Classical.byContradiction fun hc => hn (List.pairwise_iff_getElem.mpr fun i j hi hj hij e => hc ⟨j, List.mem_range.mpr hj, ?_⟩)
    show twT zs j = true
    unfold twT
    rw [List.getElem?_eq_getElem hj]
    exact decide_eq_true (List.mem_iff_getElem.mpr ⟨i, by rw [List.length_take]; omega, by rw [List.getElem_take]; exact e⟩)
def rEqNil : R2 := fun x y H Q => ∃ a b xs, x = .ref a ∧ y = .ref b ∧ H a = some (.lst xs) ∧ H b = some (.lst []) ∧ Q (.bl xs.isEmpty) H
theorem op_eqNil {X : Cx} (hu : X.A.units + 64 < cLine) : OpR X (compareOp .Eq) rEqNil := by
  intro pins s σ H x y v u Q I rx ry h
  obtain ⟨a, b, xs, rfl, rfl, ha, hb, q⟩ := h
  cases xs with
  | nil => exact op_eqD hu pins s σ H _ _ v u Q I rx ry ⟨.list [], .list [], .lst (SqL.of ha) .nil, .lst (SqL.of hb) .nil, rfl, rfl, q⟩
  | cons y ys =>
    obtain rfl : v = Value.ref a := rx
    obtain rfl : u = Value.ref b := ry
    obtain ⟨its, r1, p1, _⟩ := I.list (SqL.of ha)
    obtain ⟨it2, r2, p2, _⟩ := I.list (SqL.of hb)
    have e1 : its.toArray.size ≠ it2.toArray.size := by
      rw [List.size_toArray, List.size_toArray, ← r1.length, ← r2.length]
      exact Nat.succ_ne_zero _
    exact SeqAt.RcAt.lists_lengths p1.isList p2.isList (by simpa using e1) (Nat.lt_of_le_of_lt (Nat.le_add_right _ _) hu) _ _ _ _ ⟨.bl false, H, I, rfl, q⟩
abbrev sDue : Stmt := top 40
abbrev nDue : List Str := ["_law_bare_here", "_law_row", "_law_block", "_law_tags_here", "_law_tag", "_law_k", "_law_both"]
theorem scDue : FnScope nDue ["_law_bare_here", "_law_row"] (defScope sDue) := ⟨rfl, rfl, rfl, by decide +kernel, rfl, by decide +kernel, by decide +kernel⟩
def spDue : Sp := fun vs H Q _ => ∃ (b a p : Addr) (d : BareD) (xs : List V) (rs : List PyData), vs = [.ref b, .ref a] ∧ BareAt H b d p ∧ d.ok ∧ H a = some (.lst xs) ∧ DhAll H xs rs ∧ Few rs ∧ ∀ H', Same H H' → Q (due10 (memB d) rs) H'
structure DuT (P : Program) (w : World) (K : PySem.W.Frag) (mg : Str → Option Value) (base : Heap) : Prop where
  mms : Fi P w K mg base "_law_members" 2 ["_law_bare_here"] spMms
  isi : mg "isinstance" = none
  list : mg "list" = none
  tuple : mg "tuple" = none
  len : mg "len" = none
  range : mg "range" = none
def teSq (K : PySem.W.Frag) (v : Nat) : TE := tCB (rIsiT K) (tCons (tVar v) (tCons (tTup (tCons (tC (.ty "list")) (tCons (tC (.ty "tuple")) tNil))) tNil))
def ttU1 (K : PySem.W.Frag) : TT := tOr (tNot (tB (teSq K 2))) (tTest (tOp rEq (tCB (lenR K) (tCons (tVar 2) tNil)) (tC (.int 0))))
def ttU2 (K : PySem.W.Frag) : TT := tTest (tOp (rNotInM K) (tVar 4) (tCall spMms [] E0 (tCons (tVar 0) tNil)))
def ttU3 (K : PySem.W.Frag) : TT := tTest (tOp (rIn K false) (tOp (rIxL K) (tVar 3) (tVar 5)) (tSl (rSlL K) (tVar 3) tNoPart (tPart (tVar 5))))
def ttU4 (K : PySem.W.Frag) : TT := tAnd (tTest (tOp (rIn K false) (tC (.str "ground")) (tVar 2))) (tTest (tOp (rIn K false) (tC (.str "power")) (tVar 2)))
section
variable {P : Program} {w : World} {K : PySem.W.Frag} {mg : Str → Option Value} {base : Heap}
theorem ok_due {f : Addr} {fd : FuncData} (F : Fun K "_law_due" "_law_due" sDue f fd) (T : DuT P w K mg base) : FnOk P w K mg base CX0 3 f fd ["_law_bare_here", "_law_row"] spDue := by
  obtain ⟨fM, fdM, mM, kM, bM, GM⟩ := T.mms
  refine F.ok scDue (fun vs H Q E h => ?_) (fun cdv A outer s H vs Q E hr h => ?_)
  · obtain ⟨b, a, p, d, xs, rs, rfl, _⟩ := h
    rfl
  · obtain ⟨b, a, p, d, xs, rs, rfl, hB, ok, ha, hx, few, k⟩ := h
    refine ⟨_, pss_cons (ps_if (pt_cmpR (op_neNil hr.units) (pe_lc (te := tVar 2) (tt := ttU1 K) (own := [("_law_block", 2)]) (g := gName 2) rfl scDue.nd (pi_list (pv 1)) (blkOk_by (N := nDue) (sc := defScope sDue) (by decide +kernel)) (fun _ _ _ _ _ => pg_name (i := 2) scDue.nd rfl (Or.inl rfl))
          (fun _ _ _ _ _ => pts_one (PW.pt (pw_or (pt_not (pt_val (pe_callB call_isiT (by rfl) T.isi (by decide +kernel) (pa_cons (pv 2) (pa_cons (pe_tup (pa_cons (pe_bltn (by rfl) T.list (by decide +kernel) (v := .ty "list") rfl) (pa_cons (pe_bltn (by rfl) T.tuple (by decide +kernel) (v := .ty "tuple") rfl) pa_nil))) pa_nil)))))
            (pw_or1 (pt_cmpR op_eq (pe_callB call_lenK (by rfl) T.len PySem.boot_len (pa_cons (pv 2) pa_nil)) pe_int (nomark _)))))) (fun _ _ _ _ _ => pv 2)) (pe_lst pa_nil) (nomark _)) (pss_one (ps_ret pe_str)) pss_nil)
      (pss_cons (ps_set (i := 3) scDue.nd rfl (Or.inr rfl) (pe_lst pa_nil))
      (pss_cut (ps_for PassesOwn.never rfl (pi_list (pv 1)) (pg_name (i := 2) scDue.nd rfl (Or.inl rfl)) (pss_one (ps_set (i := 3) scDue.nd rfl (Or.inr rfl) (pe_op op_cat (pv 3) (pe_callTy call_list_of (by rfl) T.list (by decide +kernel) (pa_cons (pv 2) pa_nil))))))
      (pss_cons (ps_if (pt_cmpR (op_neNil hr.units) (pe_lc (te := tVar 4) (tt := ttU2 K) (own := [("_law_tag", 4)]) (g := gName 4) rfl scDue.nd (pi_list (pv 3)) (blkOk_by (N := nDue) (sc := defScope sDue) (by decide +kernel)) (fun _ _ _ _ _ => pg_name (i := 4) scDue.nd rfl (Or.inl rfl))
          (fun _ _ _ _ _ => pts_one (pt_cmpR (op_notInM hr.in1.units0) (pv 4) (pe_call GM hr rfl mM kM bM .nil pass0 (pa_cons (pv 0) pa_nil)) (by rfl))) (fun _ _ _ _ _ => pv 4)) (pe_lst pa_nil) (nomark _)) (pss_one (ps_ret pe_str)) pss_nil)
      (pss_cons (ps_if (pt_cmpR (op_neNil hr.units) (pe_lc (te := tVar 5) (tt := ttU3 K) (own := [("_law_k", 5)]) (g := gName 5) rfl scDue.nd (pi_range1 rfl T.range (pa_cons (pe_callB call_lenK (by rfl) T.len PySem.boot_len (pa_cons (pv 3) pa_nil)) pa_nil)) (blkOk_by (N := nDue) (sc := defScope sDue) (by decide +kernel)) (fun _ _ _ _ _ => pg_name (i := 5) scDue.nd rfl (Or.inl rfl))
          (fun _ _ _ _ _ => pts_one (pt_cmpR op_in_seq (pe_ix ix_list (pv 3) (pv 5) (fun _ _ => rfl)) (pe_slice sl_list (pv 3) po_none (po_some (pv 5))) (by rfl))) (fun _ _ _ _ _ => pv 5)) (pe_lst pa_nil) (nomark _)) (pss_one (ps_ret pe_str)) pss_nil)
      (pss_cons (ps_setLc (i := 6) (te := tVar 2) (tt := ttU4 K) (own := [("_law_block", 2)]) (g := gName 2) rfl scDue.nd rfl rfl (sw_true rfl rfl rfl (by decide +kernel)) (pi_list (pv 1)) (blkOk_by (N := nDue) (sc := defScope sDue) (by decide +kernel)) (fun _ _ _ _ _ => pg_name (i := 2) scDue.nd rfl (Or.inl rfl))
          (fun _ _ _ _ _ => pts_one (PW.pt (pw_and (pt_cmpR op_in_seq pe_str (pv 2) (by rfl)) (pw_and1 (pt_cmpR op_in_seq pe_str (pv 2) (by rfl)))))) (fun _ _ _ _ _ => pv 2))
      (pss_one (ps_ret (pe_ifExp (pt_cmpR (op_eqNil hr.units) (pv 6) (pe_lst pa_nil) (nomark _)) pe_non pe_str)))))))), ?_⟩
    have hxl := hx.len
    obtain ⟨few1, few2⟩ := few
    have keq : ∀ {v}, due10 (memB d) rs = v → ∀ H', Same H H' → Q v H' := fun e H' s => by rw [← e]; exact k H' s
    clear k
    refine ⟨_, rfl, a, rfl, ⟨_, SqL.of ha⟩, fun D hD => ?_⟩
    refine lc_sel (walk_list (K := K) (a := a) (xs := xs)) (rs.map fun r => !okB r) (by rw [List.length_map, hxl]) hD (by omega) (fun H' s => SqL.of (s _ _ ha)) (fun x => rfl) (fun x => rfl) ?_ fun H1 us s1 d1 e1 => ?_
    · rintro i x Ho Ha b' eb sa ⟨rfl, hxi⟩
      obtain ⟨r, er, hr'⟩ := hx.at_ hxi
      rw [List.getElem?_map, er] at eb
      obtain rfl := Option.some.inj eb
      have hra := hr'.same sa
      refine ⟨Same.refl _, fun R kR => ?_⟩
      obtain ⟨ty, tyx, k1, k2, k3⟩ := dq_ty (hra.dq (K := K))
      refine ⟨_, rfl, by show 2 ≤ sizeLine; decide, fun p' hp' => ?_⟩
      have sp := same_at (o := .tup [V.ty "list", .ty "tuple"]) hp'
      refine ⟨x, p', [.ty "list", .ty "tuple"], .type ty, [.type "list", .type "tuple"], _, rfl, upd_same, .cons (.ty _) (.cons (.ty _) .nil), tyx_same tyx sp, kit_two k2 k3, _, rfl, ?_⟩
      have kR : ∀ H'', Same Ha H'' → R (!okB r) H'' := kR
      rw [okB_is] at kR
      rw [← isSeq_two]
      cases e : isSeq r with
      | none =>
        rw [e] at kR
        exact iteT (kR _ sp)
      | some es =>
        obtain ⟨a', ys, rfl, hq, hy⟩ := dh_seq hra e
        have ei : itemsD r = es := by unfold itemsD; rw [e]; rfl
        have hyl := hy.len
        refine iteF ⟨_, rfl, a', ys, rfl, hq.imp (fun q => SqL.of (sp _ _ q)) (fun q => SqT.of (sp _ _ q)), rfl, _, rfl, ?_⟩
        rw [e, ei] at kR
        have ed : decide (V.int (ys.length : Int) = V.int 0) = !(true && decide (0 < es.length)) := by
          rw [Bool.true_and, hyl]
          cases es with
          | nil => rfl
          | cons e0 es0 =>
            rw [decide_eq_true (show 0 < (e0 :: es0).length from Nat.succ_pos _), decide_eq_false fun z => ?_]
            · rfl
            · injection z with z
              rw [List.length_cons] at z
              omega
        rw [ed]
        exact kR _ sp
    refine ⟨by show 0 ≤ sizeLine; decide, fun e he => ?_⟩
    have s2 := same_at (o := .lst []) he
    refine ⟨D, e, us, rfl, rfl, s2 _ _ d1, upd_same, _, rfl, ?_⟩
    have allE : (!(rs.map fun r => !okB r).any id) = rs.all okB := by
      rw [List.any_map, List.all_eq_not_any_not]
      rfl
    rw [e1, allE]
    have s02 := s1.trans s2
    cases hall : rs.all okB with
    | false => exact iteT (keq (by unfold due10; rw [if_pos hall]) _ s02)
    | true =>
    have due1 : due10 (memB d) rs = if (wholeD rs).all (inL (memB d)) = false then .str "name" else if ((wholeD rs).map nmD).Nodup then (if rs.any bothD = true then .str "rails" else .non) else .str "twice" := by
      unfold due10
      rw [if_neg (by rw [hall]; decide)]
    rw [due1] at keq
    refine iteF ⟨by show 0 ≤ sizeLine; decide, fun w0 hw0 => ?_⟩
    have s3 := same_at (o := .lst []) hw0
    have s03 := s02.trans s3
    obtain ⟨H3, e3⟩ : ∃ H3, H3 = upd (upd H1 e (.lst [])) w0 (.lst []) := ⟨_, rfl⟩
    have hw3 : H3 w0 = some (.lst []) := by rw [e3, upd_same]
    rw [← e3] at s03 ⊢
    clear e3 s3 s02 e1 d1 s1 s2 allE due1
    have hall' : (rs.all fun r => (isSeq r).isSome) = true := List.all_eq_true.mpr fun r hr' => by
      obtain ⟨es, he, _⟩ := okB_seq (List.all_eq_true.mp hall r hr')
      rw [he]
      rfl
    have ha3 := s03 _ _ ha
    have hx3 := hx.same s03
    obtain ⟨Bl, exs, hBl, hW, _⟩ := rows_flat (K := K) hx3 hall'
    have hWl := hW.len
    have hBn : (Bl.map fun y => V.ref y.1).length = Bl.length := List.length_map _
    refine ⟨fun σ H' => ∃ (W : Addr) (o2 : Option V), σ = ([some (.ref b), some (.ref a), o2, some (.ref W), none, none, none] : List (Option V)) ∧ Same H3 H' ∧ H' W = some (.lst (Bl.flatMap (·.2))), ?_, ?_⟩
    · have sn : ∀ {i : Nat} {y : Addr × List V}, Bl[i]? = some y → (Bl.take (i + 1)).flatMap (·.2) = (Bl.take i).flatMap (·.2) ++ y.2 := fun {i y} h => by
        rw [List.take_add_one, h, Option.toList_some, List.flatMap_append]
        simp
      refine ⟨_, rfl, a, rfl, ⟨_, SqL.of ha3⟩, for_list (xs := xs) (fun i σ H' => ∃ (W : Addr) (o2 : Option V), σ = ([some (.ref b), some (.ref a), o2, some (.ref W), none, none, none] : List (Option V)) ∧ Same H3 H' ∧ H' W = some (.lst ((Bl.take i).flatMap (·.2)))) ⟨w0, none, rfl, Same.refl _, hw3⟩ (fun i σ H' _ ⟨_, _, _, s, _⟩ => SqL.of (s _ _ ha3)) ?_ ?_⟩
      · rintro i x σ Hc hxi ⟨W, o2, rfl, sc, hw⟩
        rw [exs, List.getElem?_map] at hxi
        cases ey : Bl[i]? with
        | none => rw [ey] at hxi; cases hxi
        | some y =>
        rw [ey] at hxi
        obtain rfl := Option.some.inj hxi
        have hym := List.mem_of_getElem? ey
        have hle : ((Bl.take i).flatMap (·.2)).length + y.2.length ≤ 900 := by
          rw [← List.length_append, ← sn ey]
          refine Nat.le_trans ?_ (show (Bl.flatMap (·.2)).length ≤ 900 by omega)
          have e : Bl.flatMap (·.2) = (Bl.take (i + 1)).flatMap (·.2) ++ (Bl.drop (i + 1)).flatMap (·.2) := by rw [← List.flatMap_append, List.take_append_drop]
          rw [e, List.length_append]
          omega
        refine ⟨_, rfl, _, rfl, y.1, y.2, rfl, (hBl y hym).same sc, fun l hl => ?_⟩
        have s5 := same_at (o := .lst y.2) hl
        refine ⟨W, l, _, _, rfl, rfl, s5 _ _ hw, upd_same, Nat.le_trans (show _ ≤ 900 by exact hle) (by decide), fun p5 hp5 => ?_⟩
        exact ⟨p5, _, rfl, sc.trans (s5.trans (same_at hp5)), by rw [upd_same, sn ey]⟩
      · rintro σ H4 ⟨W, o2, h1, h2, h3⟩
        rw [exs, hBn, List.take_length] at h3
        exact ⟨W, o2, h1, h2, h3⟩
    rintro σ H4 ⟨W, o2, rfl, s34, hW4⟩
    have s4 := s03.trans s34
    have hD4 := hW.same s34
    obtain ⟨ns, ens⟩ : ∃ ns, ns = Bl.flatMap (·.2) := ⟨_, rfl⟩
    rw [← ens] at hW4 hD4 hWl
    clear s34 s03 ha3 hx3 hBl hW hw3 hBn
    have hB4 := hB.same s4
    -- names
    refine ⟨_, rfl, W, rfl, ⟨_, SqL.of hW4⟩, fun D hD => ?_⟩
    refine lc_sel (walk_list (K := K) (a := W) (xs := ns)) ((wholeD rs).map fun r => !inL (memB d) r) (by rw [List.length_map, hWl]) hD (by omega) (fun H' s => SqL.of (s _ _ hW4)) (fun x => rfl) (fun x => rfl) ?_ fun H5 us s45 d5 e5 => ?_
    · rintro i x Ho Ha b' eb sa ⟨rfl, hxi⟩
      obtain ⟨r, er, hr'⟩ := hD4.at_ hxi
      rw [List.getElem?_map, er] at eb
      obtain rfl := Option.some.inj eb
      refine ⟨Same.refl _, fun R kR => ?_⟩
      refine ⟨_, rfl, _, rfl, b, d, p, rfl, hB4.same sa, ok, fun zs q H' hzs hso hq0 hq s' => ⟨q, zs, r, rfl, SqL.of hq, ((hr'.same sa).same s').dq, _, rfl, ?_⟩⟩
      have ei : inL zs r = inL (memB d) r := by
        cases r with
        | str z => exact decide_eq_decide.mpr hzs.mem_iff
        | _ => rfl
      rw [ei]
      exact kR _ s'
    have s5 := s4.trans s45
    refine ⟨by show 0 ≤ sizeLine; decide, fun e he => ?_⟩
    have s6 := same_at (o := .lst []) he
    refine ⟨D, e, us, rfl, rfl, s6 _ _ d5, upd_same, _, rfl, ?_⟩
    have allE : (!((wholeD rs).map fun r => !inL (memB d) r).any id) = (wholeD rs).all (inL (memB d)) := by
      rw [List.any_map, List.all_eq_not_any_not]
      rfl
    rw [e5, allE]
    have s7 := s5.trans s6
    cases hall2 : (wholeD rs).all (inL (memB d)) with
    | false => exact iteT (keq (by rw [if_pos hall2]) _ s7)
    | true =>
    rw [if_neg (by rw [hall2]; decide)] at keq
    refine iteF ?_
    obtain ⟨ex1, _, _⟩ := all_strs hD4 hall2
    obtain ⟨zs, ezs⟩ : ∃ zs, zs = (wholeD rs).map nmD := ⟨_, rfl⟩
    have hzl : zs.length = (wholeD rs).length := by rw [ezs, List.length_map]
    rw [← ezs] at ex1 keq
    rw [ex1] at hW4
    have hW7 := s6 _ _ (s45 _ _ hW4)
    have nl : (strv zs).length = zs.length := List.length_map _
    obtain ⟨H7, eH7⟩ : ∃ H7, H7 = upd H5 e (.lst []) := ⟨_, rfl⟩
    rw [← eH7] at s7 hW7 ⊢
    clear eH7 s6 s5 s45 d5 e5 allE hD4 hB4 s4
    -- twice
    refine ⟨_, rfl, W, strv zs, rfl, .inl (SqL.of hW7), _, rfl, by omega, by omega, fun D hD => ?_⟩
    rw [show (((strv zs).length : Nat) : Int).toNat = zs.length by omega]
    refine lc_range (n := zs.length) (fun i H' => Same H7 H' ∧ ∃ ys, H' D = some (.lst ys) ∧ ys.length ≤ i ∧ ys.isEmpty = !(((List.range i).map (twT zs)).any id)) ⟨same_at hD, [], upd_same, Nat.le_refl _, rfl⟩ ?_ ?_
    · rintro i Ha hi ⟨sa, ys, da, hl, he'⟩
      refine ⟨rfl, ?_⟩
      have ei : (strv zs)[i]? = some (.str zs[i]) := by show (zs.map V.str)[i]? = _; rw [List.getElem?_map, List.getElem?_eq_getElem hi]; rfl
      have hWa := sa _ _ hW7
      have e0 : (0 : Int) + (i : Int) = ((i : Nat) : Int) := by omega
      rw [e0]
      refine ⟨_, rfl, _, rfl, W, strv zs, _, _, rfl, rfl, SqL.of hWa, atI_nat ei, _, rfl, _, rfl, _, rfl, W, strv zs, rfl, SqL.of hWa, fun q hq => ?_⟩
      rw [cut_hiV]
      have et : (strv zs).take i = strv (zs.take i) := by unfold strv; rw [List.map_take]
      rw [et]
      have sq := same_at (o := .lst (strv (zs.take i))) hq
      refine ⟨q, strv (zs.take i), rfl, .inl (SqL.of upd_same), rfl, flat_strs _, twT zs i, ?_, ?_⟩
      · rw [if_neg (by decide), inV_strs]
        unfold twT
        rw [List.getElem?_eq_getElem hi]
      have er : ((List.range (i + 1)).map (twT zs)).any id = (((List.range i).map (twT zs)).any id || twT zs i) := by
        rw [List.range_succ, List.map_append, List.any_append]
        show (_ || (id (twT zs i) || false)) = _
        rw [Bool.or_false]
        rfl
      have dq := sq _ _ da
      cases et : twT zs i with
      | true =>
        refine iteT ⟨_, rfl, _, dq, Nat.lt_of_lt_of_le (show _ < 2001 by omega) (by decide), fun c o ec => ?_, _, upd_same, by rw [List.length_append, List.length_singleton]; omega, ?_⟩
        · rw [upd_ne (ne_of_none ec hD)]
          exact sq _ _ (sa _ _ ec)
        · rw [er, et, Bool.or_true]
          cases ys <;> rfl
      | false =>
        exact iteF ⟨sa.trans sq, ys, dq, by omega, by rw [er, et, Bool.or_false]; exact he'⟩
    rintro H8 ⟨s78, ys8, d8, _, e8⟩
    rw [nodup_take, Bool.not_not] at e8
    refine ⟨by show 0 ≤ sizeLine; decide, fun e he => ?_⟩
    have s9 := same_at (o := .lst []) he
    refine ⟨D, e, ys8, rfl, rfl, s9 _ _ d8, upd_same, _, rfl, ?_⟩
    rw [e8]
    have s09 := s7.trans (s78.trans s9)
    by_cases hnd : zs.Nodup
    case neg =>
      rw [decide_eq_false hnd]
      exact iteT (keq (by rw [if_neg hnd]) _ s09)
    rw [decide_eq_true hnd]
    rw [if_pos hnd] at keq
    refine iteF ?_
    -- rails
    obtain ⟨Tl, ext, hBT, _, hbt⟩ := rows_txt (hx.same s09) hall hall2
    have ha9 := s09 _ _ ha
    refine ⟨_, rfl, a, rfl, ⟨_, SqL.of ha9⟩, fun D4 hD4 => ?_⟩
    refine lc_sel (walk_list (K := K) (a := a) (xs := xs)) (rs.map bothD) (by rw [List.length_map, hxl]) hD4 (by omega) (fun H' s => SqL.of (s _ _ ha9)) (fun x => rfl) (fun x => rfl) ?_ fun H10 us s10 d10 e10 => ?_
    · rintro i x Ho Ha b' eb sa ⟨rfl, hxi⟩
      rw [ext, List.getElem?_map] at hxi
      cases ey : Tl[i]? with
      | none => rw [ey] at hxi; cases hxi
      | some y =>
      rw [ey] at hxi
      obtain rfl := Option.some.inj hxi
      rw [hbt, List.getElem?_map, ey] at eb
      obtain rfl := Option.some.inj eb
      have hy := (hBT y (List.mem_of_getElem? ey)).1
      have hsq : SqL K Ha y.1 (strv y.2) ∨ SqT K Ha y.1 (strv y.2) := hy.imp (fun q => SqL.of (sa _ _ q)) (fun q => SqT.of (sa _ _ q))
      refine ⟨Same.refl _, fun R kR => ?_⟩
      have kR : ∀ H'', Same Ha H'' → R (decide (("ground" : Str) ∈ y.2) && decide (("power" : Str) ∈ y.2)) H'' := kR
      refine ⟨_, rfl, y.1, strv y.2, rfl, hsq, rfl, flat_strs _, decide (("ground" : Str) ∈ y.2), ?_, ?_⟩
      · rw [if_neg (by decide), inV_strs]
      by_cases hg : ("ground" : Str) ∈ y.2
      · rw [decide_eq_true hg] at kR ⊢
        refine iteT ⟨_, rfl, y.1, strv y.2, rfl, hsq, rfl, flat_strs _, decide (("power" : Str) ∈ y.2), ?_, kR _ (Same.refl _)⟩
        rw [if_neg (by decide), inV_strs]
      · rw [decide_eq_false hg] at kR ⊢
        exact iteF (kR _ (Same.refl _))
    refine ⟨_, rfl, by show 0 ≤ sizeLine; decide, fun e' he' => ?_⟩
    have s11 := same_at (o := .lst []) he'
    refine ⟨D4, e', us, rfl, rfl, s11 _ _ d10, upd_same, _, rfl, ?_⟩
    have eany : (rs.map bothD).any id = rs.any bothD := by rw [List.any_map]; rfl
    rw [e10, eany]
    have s12 := s09.trans (s10.trans s11)
    cases hb : rs.any bothD with
    | true => exact iteF (keq (by rw [if_pos hb]) _ s12)
    | false => exact iteT (keq (by rw [if_neg (by rw [hb]; decide)]) _ s12)
end
end Sj
/-! The law's def, proved for the one place where the row calls it (so that what is shown around is known: nothing). -/
namespace Sup
open PySem PySem.Spec PyProof.Rows L2
abbrev Sp1 := V → Hp → VK → Prop
/-- called there with one value, the def keeps its promise -/
def AtCall (P : Program) (w : World) (K : PySem.W.Frag) (mg : Str → Option Value) (base : Heap) (f : Addr) (sp : Sp1) : Prop :=
  ∀ (s : Shared) (H : Hp) (u : Value) (v : V) (Q : VK), Env0 P w K mg base callerA [] s H → RelV v u → sp v H Q → codeAny (model P w) callerA (.call (.ref f) ⟨[u], []⟩) (CR CX0 [] P w H s Q E0) s
end Sup
/-! The law's def at the place where the row calls it, where its code object has a table (it makes lambdas). -/
namespace Sup
open PySem PySem.Spec PyProof.Rows L2 LamX
section
variable {P : Program} {w : World} {K : PySem.W.Frag} {mg mb : Str → Option Value} {base : Heap}
/-- at_call, the def's code object named -/
theorem at_callC {nm q x : Str} {st : Stmt} {f : Addr} {N : List Str} {k : Nat} {sp : Sp1} {oc kV doc pm cdv ct : Value} {od an : Option Addr} {osl : Array (Option Value)} (lk : K.lookup f = some ⟨oc, od, .func (PySem.W.fnOf nm q (defArgs st) (defBody st) (defScope st) .none kV doc pm an cdv ct), osl⟩) (hcd : PySem.W.codeIn K cdv q = true)
    (S : FnScope N [x] (defScope st)) (room : Room (k + 1) callerA) (hb : ∀ (s : Shared) (u : Value), BindsTo s (PySem.W.fnOf nm q (defArgs st) (defBody st) (defScope st) .none kV doc pm an cdv ct) ⟨[u], []⟩ [(x, u)])
    (body : ∀ (s : Shared) (H : Hp) (v : V) (Q : VK), Room k (callerA.deeper (envOfC q (defScope st) s.heap.objs.size f cdv)) → sp v H Q →
      ∃ t, PSs (cxOf CX0 P w K mg base N q (defScope st) f cdv callerA [] s H E0).nox (defBody st) t ∧ t { nx := fun _ H' => Q .non H', rt := Q } (start N [v]) H) : AtCall P w K mg base f sp := by
  intro s H u v Q env0 ru hsp
  have stand : ∀ b o, base.get? b = some o → s.heap.get? b = some o := fun b o z => (env0.bs b o z).1
  have inK := env0.mod.kin.keeps stand
  have kinds : ∀ y ∈ [x].zip [u], (defScope st).names.lookup y.1 = some .local ∨ ((defScope st).names.lookup y.1 = some .cell ∧ ((cellsFrom (s.heap.objs.size + 1) (defScope st).names []).lookup y.1).isSome = true) := by
    intro y hy
    have ey : y = (x, u) := by simpa using hy
    subst ey
    exact (S.par x (by simp)).imp id fun c => ⟨c, PySem.W.cellsFrom_some _ _ _ (.inl c)⟩
  apply codeAny_call_function room.depth (inK _ _ lk) rfl S.co S.gen rfl (PySem.W.codeRec_of inK hcd)
  apply hb s u
  apply wpAny_newFunctionEnv_cells S.kind kinds
  intro env he s1 inC
  subst he
  constructor
  · exact (env0.mod.nolimit.keeps stand).keeps inC.toInCall.keep
  · obtain ⟨t, ht, hq⟩ := body s H v Q (room.deeper _) hsp
    have J := inv_start (CX := CX0) (E := E0) (P := P) (w := w) (us := [u]) (vs := [v]) S room.hd env0 rfl (.cons ru .nil) inC
    apply codeAny_func
    apply wpAny_mono (ht.nox.run [] s1 (start N [v]) H _ J hq) _ (fun _ _ z => z)
    intro fl s' hs
    have done : ∀ {σ' : L2.St} {H' : Hp} {y : V} {z : Value}, Inv (cxOf CX0 P w K mg base N q (defScope st) f cdv callerA [] s H E0) [] σ' H' s' → L2.RelV y z → Q y H' → CE [] P w H s Q z s' := by
      intro σ' H' y z I ry qy
      exact ⟨y, H', I.os, I.bare, I.base, I.hok, ry, qy⟩
    match fl, hs with
    | .ret _, ⟨_, _, _, I, ry, qy⟩ => exact done I ry qy
    | .next, ⟨_, _, I, qy⟩ => exact done (y := V.non) (z := Value.none) I rfl qy
    | .brk, ⟨_, _, _, z⟩ => exact z.elim
    | .cont, ⟨_, _, _, z⟩ => exact z.elim
end
section
variable {P : Program} {w : World} {K : PySem.W.Frag} {mg mb : Str → Option Value}
theorem law_runsT {f a c Pt : Addr} {sp : Sp1} {s1 : Shared} {vs : List Value} {ns : List Int} (inK : K.In s1.heap) (gl : s1.heap.Ns mainGlobals mg) (bl : s1.heap.Ns builtinsNs mb) (bb : ∀ x : Str, x ≠ "__name__" → mb x = bootBuiltins x) (lim : s1.heap.NoLimit)
    (nogen : s1.gens = #[]) (ht : s1.heap.get? Pt = some { cls := .none, data := .fields #[] }) (nt : K.lookup Pt = none) (hc : PySem.W.CodeHd s1.heap c Pt)
    (bm : ∃ (m : Addr) (o : Obj), mg "__builtins__" = some (.ref m) ∧ m ≠ builtinsNs ∧ s1.heap.get? m = some o ∧ o.cls = .type "module" ∧ o.dict = some builtinsNs ∧ o.data = .plain)
    (ha : s1.heap.get? a = some { cls := .type "list", data := .seq vs.toArray }) (hi : IntsAre vs ns) (hl : ns.length ≤ sizeLine)
    (go : ∀ base : Heap, K.In base → base.Ns mainGlobals mg → TabB base mg c Pt → AtCall P w K mg base f sp) (want : ∀ H : Hp, H Pt = some (.tbl #[]) → SqL K H a (ns.map V.int) → sp (.ref a) H fun v _ => v = .bl true) :
    codeAny (model P w) callerA (.call (.ref f) ⟨[.ref a], []⟩) (fun r s' => r = .ok (.ret (.bool true)) ∧ OldK s1.heap s'.heap ∧ s'.os = s1.os ∧ AllBare s'.gens) s1 := by
  have rel := vals_ints hi
  have szV : vs.length ≤ sizeLine := hi.length ▸ hl
  have aPt : a ≠ Pt := fun z => by
    rw [z, ht] at ha
    have := congrArg Obj.data (Option.some.inj ha)
    cases this
  have main : ∀ H : Hp, H Pt = some (.tbl #[]) → (∀ b u, H b = some u → b = Pt ∨ (b = a ∧ K.lookup a = none ∧ ∃ o xs, u = .frz o (.lst xs))) → SqL K H a (ns.map V.int) → HOk P w H s1.heap → codeAny (model P w) callerA (.call (.ref f) ⟨[.ref a], []⟩)
      (fun r s' => r = .ok (.ret (.bool true)) ∧ OldK s1.heap s'.heap ∧ s'.os = s1.os ∧ AllBare s'.gens) s1 := by
    intro H hPt only hS hok
    have keepB : ∀ {b : Addr} {o : Obj}, s1.heap.get? b = some o → (∀ xs n, o.data ≠ .seq xs n) → o.data ≠ .fields #[] → (hidT s1.heap H).get? b = some o := by
      intro b o e no nf
      apply hidT_get e
      cases z : H b with
      | none => rfl
      | some u =>
        rcases only b u z with eb | ⟨eb, _⟩
        · rw [eb, ht] at e
          exact absurd rfl (by cases e; exact nf)
        · rw [eb, ha] at e
          exact absurd rfl (by cases e; exact no _ _)
    have keepK : K.In (hidT s1.heap H) := by
      intro b o e
      apply hidT_get (inK b o e)
      cases z : H b with
      | none => rfl
      | some u =>
        rcases only b u z with eb | ⟨eb, nk, _⟩
        · rw [eb, nt] at e
          cases e
        · rw [eb, nk] at e
          cases e
    have keepN : ∀ {b : Addr} {m : Str → Option Value}, s1.heap.Ns b m → (hidT s1.heap H).Ns b m := by
      rintro b m ⟨o, es, ep, e, d, r⟩
      exact ⟨o, es, ep, keepB e (fun xs n z => by rw [d] at z; cases z) (fun z => by rw [d] at z; cases z), d, r⟩
    have mod : Mod K mg (hidT s1.heap H) := by
      refine ⟨keepK, keepN gl, ⟨mb, keepN bl, bb⟩, ?_⟩
      obtain ⟨mc, n1, n2⟩ := lim
      exact ⟨mc, keepN n1, n2⟩
    have tab : TabB (hidT s1.heap H) mg c Pt := by
      refine ⟨?_, ?_, fun z => ?_⟩
      · obtain ⟨o, us, file, tf, fl, tg, x, text, tt, q, r1, r2, r3, rest⟩ := hc
        refine ⟨o, us, file, tf, fl, tg, x, text, tt, keepB q (fun xs n z => ?_) (fun z => ?_), r1, r2, r3, rest⟩
        · rw [r2] at z
          cases z
        · rw [r2] at z
          cases z
          simp at r3
      · obtain ⟨m, o, b1, b2, b3, b4, b5, b6⟩ := bm
        refine ⟨m, o, b1, b2, fun z => ?_, fun z => ?_, keepB b3 (fun xs n z => ?_) (fun z => ?_), b4, b5, b6⟩
        · obtain ⟨og, es, ep, e, d, _⟩ := gl
          rw [z, e] at b3
          rw [← Option.some.inj b3, d] at b6
          cases b6
        · rw [z, ht] at b3
          rw [← Option.some.inj b3] at b6
          cases b6
        · rw [b6] at z
          cases z
        · rw [b6] at z
          cases z
      · obtain ⟨og, es, ep, e, d, _⟩ := gl
        rw [z, ht] at e
        rw [← Option.some.inj e] at d
        cases d
    have env : Env0 P w K mg (hidT s1.heap H) callerA [] s1 H := by
      refine ⟨rfl, mod, fun b o e => of_hidT e, Nat.le_of_eq (hidT_size _ _), trivial, ?_, hok, .of_eq nogen⟩
      intro b hb
      cases hb
    apply codeAny_mono (go _ keepK (keepN gl) tab s1 H (.ref a) (.ref a) _ env rfl (want H hPt hS))
    intro r s' h
    match r, h with
    | .ok (.ret u), ⟨v, H', os, bare, un, hok', ru, q⟩ =>
      have ev : v = .bl true := q
      subst ev
      obtain rfl : u = Value.bool true := ru
      obtain ⟨more, hm⟩ := un.tbls Pt #[] hPt
      have grown : s'.heap.get? Pt = some { cls := .none, data := .fields (#[] ++ more) } := hok' Pt _ hm
      have stays : ∀ b o, b ≠ Pt → s1.heap.get? b = some o → s'.heap.get? b = some o := by
        intro b o nb e
        cases z : H b with
        | none => exact un.keep b o e z (fun k => by cases k) (fun k => by cases k)
        | some u =>
          obtain ⟨_, _, ob, xs, eu⟩ := (only b u z).resolve_left nb
          subst eu
          have here := (hok b _ z).1
          have there := (hok' b _ (un.frzs b ob _ z)).1
          rw [e] at here
          cases here
          exact there
      refine ⟨rfl, ⟨fun b o e => ?_, fun b o e => ?_⟩, os, bare⟩
      · by_cases hb : b = Pt
        · subst hb
          rw [ht] at e
          cases e
          exact .inr (.inl ⟨(hc.tab ht).isCodeTable, rfl, #[], more, rfl, grown⟩)
        · exact .inl (stays b o hb e)
      · by_cases hb : b = Pt
        · subst hb
          exact ⟨_, grown⟩
        · exact ⟨o, stays b o hb e⟩
  cases known : K.lookup a with
  | some o =>
    have eo := inK a o known
    rw [ha] at eo
    cases eo
    apply main (fun b => if b = Pt then some (.tbl #[]) else none) (if_pos rfl)
    · intro b u z
      by_cases hb : b = Pt
      · exact .inl hb
      · rw [if_neg hb] at z
        cases z
    · exact .inr ⟨_, vs.toArray, _, known, rfl, rfl, rfl, by simpa using szV, by simpa using rel⟩
    · intro b u z
      dsimp only at z
      by_cases hb : b = Pt
      · rw [if_pos hb] at z
        cases z
        subst hb
        exact ht
      · rw [if_neg hb] at z
        cases z
  | none =>
    apply main (fun b => if b = Pt then some (.tbl #[]) else if b = a then some (.frz { cls := .type "list", data := .seq vs.toArray } (.lst (ns.map V.int))) else none) (if_pos rfl)
    · intro b u z
      by_cases h1 : b = Pt
      · exact .inl h1
      · rw [if_neg h1] at z
        by_cases hb : b = a
        · rw [if_pos hb] at z
          cases z
          exact .inr ⟨hb, known, _, _, rfl⟩
        · rw [if_neg hb] at z
          cases z
    · exact .inl (.inr ⟨{ cls := .type "list", data := .seq vs.toArray }, by dsimp only; rw [if_neg aPt, if_pos rfl]⟩)
    · intro b u z
      dsimp only at z
      by_cases h1 : b = Pt
      · rw [if_pos h1] at z
        cases z
        subst h1
        exact ht
      · rw [if_neg h1] at z
        by_cases hb : b = a
        · rw [if_pos hb] at z
          cases z
          subst hb
          exact ⟨ha, by rw [List.length_map]; exact hl, vs, _, rel, ha⟩
        · rw [if_neg hb] at z
          cases z
/-- the goal that k_head leaves, from AtCall, the law with a table -/
theorem walk_atT {l : PySem.W.OpenLaw} {n : Nat} {q : Program} {loose : List Str} {XP : (Str → Option Value) → Heap → Prop} {YP : World → Heap → Prop} {d : DefRec} {K : Params → PySem.W.Frag} {sp : PySem.W.Frag → Addr → Sp1}
    (hn : l.most = some n) (hz : n ≤ sizeLine) (hdf : d.params.defaults = []) (hrec : ((recsOf q).any fun e => e.name == d.name) = true) (hY : ∀ (w : World) (h : Heap), YP w h → (K w.params).In h)
    (go : ∀ (w : World) (mg : Str → Option Value) (f : Addr) (h : Heap), (K w.params).In h → h.Ns mainGlobals mg → mg d.name = some (.ref f) → OwnTab (K w.params) f h →
      ∃ c Pt : Addr, h.get? Pt = some { cls := .none, data := .fields #[] } ∧ (K w.params).lookup Pt = none ∧ PySem.W.CodeHd h c Pt ∧ ∀ base : Heap, (K w.params).In base → base.Ns mainGlobals mg → TabB base mg c Pt → AtCall l.prog w (K w.params) mg base f (sp (K w.params) Pt))
    (want : ∀ (K : PySem.W.Frag) (Pt : Addr) (H : Hp) (a : Addr) (ns : List Int), ns.length ≤ n → H Pt = some (.tbl #[]) → SqL K H a (ns.map V.int) → sp K Pt (.ref a) H fun v _ => v = .bl true) :
    PySem.W.WalkO q loose XP YP l.row.toRowW d [] (fun f vs => PySem.call f vs) := by
  apply Att.attach_callB hn hdf
  intro w _ s1 mg mb f _ _ _ _ a vs ns G Y _ _ _ hmg hobj hints hlen _ hg
  have inK := hY w _ Y
  have own : OwnTab (K w.params) f s1.heap := by
    intro c Pt o1 fd e dd us sl q1 q2 q3 q4 q5
    obtain ⟨r, mem, same⟩ := List.any_eq_true.mp hrec
    obtain ⟨f2, o2, fd2, c2, P2, w1, w2, w3, w4, _, ⟨⟨o3, us3, w5, _, w6, w7⟩, w8⟩⟩ := G.T.tab r mem
    have nm : r.name = d.name := beq_iff_eq.mp same
    rw [nm] at w1
    obtain rfl : f = f2 := by
      have := hmg.symm.trans w1
      cases this
      rfl
    obtain rfl : o1 = o2 := Option.some.inj ((inK _ _ q1).symm.trans w2)
    obtain rfl : fd = fd2 := by
      have := q2.symm.trans w3
      cases this
      rfl
    obtain rfl : c = c2 := by
      have := q3.symm.trans w4
      cases this
      rfl
    have e3 := Option.some.inj ((inK _ _ q4).symm.trans w5)
    subst e3
    cases w6
    obtain rfl : Pt = P2 := by
      have := q5.symm.trans w7
      cases this
      rfl
    exact w8
  obtain ⟨c, Pt, h1, h2, h3, h4⟩ := go w mg f _ inK G.T.g hmg own
  exact law_runsT inK G.T.g G.T.b G.T.builtins G.T.nolimit hg h1 h2 h3 G.T.bmain hobj hints (Nat.le_trans hlen hz) h4 fun H hP hS => want _ Pt H a ns hlen hP hS
end
end Sup
/-! s - t of two sets of texts, the first of at most three -/
/-! s - t of sets of texts; is and is not of two truth values; xs == [] -/
namespace Sj
open PySem L2 Sup StK Own Shw Exg Grd KepE LamX
open NdefX (NF NScope ncx envF startF nscope_by)
open C8 (pss_cut tCut)
/-! k10: _law_heard, over a lambda; what stays behind one -/
abbrev sHea : Stmt := top 39
abbrev nHea : List Str := ["_law_ask", "_law_caught", "error"]
theorem scHea : FnScope nHea ["_law_ask"] (defScope sHea) := ⟨rfl, rfl, rfl, by decide +kernel, rfl, by decide +kernel, by decide +kernel⟩
/-- InvalidBoard is raised, and its reason told -/
inductive HeaX (CI : Addr) (Q : VK) : XK
  | inv {dd : Addr} {z : Str} {H' : Hp} (h : H' dd = some (.xd [("reason", .str z)])) (k : ∀ H2, Same H' H2 → Q (.str z) H2) : HeaX CI Q (.ref CI) (some dd) H'
def TThea (CI : Addr) : (XK → Hp → VK → Prop) → Hp → VK → Prop := fun tl H Q => ∀ Q' : VK, (∀ v H', Q .non H' → Q' v H') → tl (HeaX CI Q) H Q'
structure HeT (K : PySem.W.Frag) (mg : Str → Option Value) (CJ CI : Addr) : Prop where
  mJ : mg "JoinError" = some (.ref CJ)
  mI : mg "InvalidBoard" = some (.ref CI)
  mV : mg "ValueError" = none
  isi : mg "isinstance" = none
  ex : PySem.W.exmOne K (.ref CI) (.ref CJ) = some true
  ke : KeT K CI
  no : PySem.W.findIn K (.ref CI) "reason" = some none
  ii : PySem.W.kitOne K (.ref CI) (.ref CI) = some true
  iv : PySem.W.kitOne K (.ref CI) (.type "ValueError") = some true
theorem takesLen {X : Cx} {W : WX} {n : Nat} (hn : X.N.length = n) (tk : Takes X W) : Takes X (fun cls d σ H => σ.length = n → W cls d σ H) := fun u s' ⟨a, B, sI, pins, σ, H, cls, d, e, I, nb, up, sky, na, os, ag, w⟩ =>
  tk u s' ⟨a, B, sI, pins, σ, H, cls, d, e, I, nb, up, sky, na, os, ag, w (I.len.trans hn)⟩
section
variable {X : Cx}
theorem heard_gives {g CJ CI : Addr} {cdg : Value} {q : Str} (T : HeT X.K X.mg CJ CI) : GivesTo X nHea "_law_heard" (defScope sHea) g cdg (defBody sHea) "_law_ask" q (TThea CI) := by
  intro f c' s H Q tl act hc h
  refine ⟨_, pss_cons (ps_set (X := (cxOf C8.CX0 X.prog X.w X.K X.mg X.base nHea "_law_heard" (defScope sHea) g cdg X.A X.stack s H C8.E0).nox) (i := 1) scHea.nd rfl (Or.inl rfl) pe_non)
    (pss_cons (ps_try_keep (i := 2) (j := 1) (c := .ref CJ)
      (tb := fun W D σ H => ∃ Ech : XK, (∀ cls d σ' H', Ech cls d H' → σ'.length = 3 → W cls d σ' H') ∧ σ[0]? = some (some (.ref f)) ∧ H c' = some (CodeO c' q) ∧ tl Ech H (fun _ H' => D.nx σ H'))
      rfl rfl rfl scHea.nd rfl rfl rfl rfl ⟨rfl, by decide, .inl T.mJ⟩ (fun W pn xe tk _ => ?_))
    (pss_cons (ps_if (pt_cmpR op_isN (pv 1) pe_non (nomark _)) (pss_one (ps_ret pe_non)) pss_nil)
    (pss_one (ps_ret (pe_ifExp (PW.pt (pw_and (pt_val (pe_callB call_isKe (by rfl) T.isi (by decide +kernel) (pa_cons (pv 1) (pa_cons (pe_glob rfl T.mI (v := .ref CI) rfl) pa_nil))))
        (pw_and1 (pt_val (pe_callB call_isKe (by rfl) T.isi (by decide +kernel) (pa_cons (pv 1) (pa_cons (pe_bltn (by rfl) T.mV (by decide +kernel) (v := .ty "ValueError") rfl) pa_nil))))))) (pe_fldK (pv 1)) pe_str))))), ?_⟩
  · refine ⟨fun pins s' σ H' D I h' => ?_⟩
    obtain ⟨Ech, hW, h1, h2, h3⟩ := h'
    exact (pss_one (ps_expr (act (fun cls d σ H => σ.length = 3 → W cls d σ H) pn xe Ech _ _ (takesLen rfl tk) hW))).run pins s' σ H' D I ⟨h1, h2, h3⟩
  · refine ⟨HeaX CI Q, ?_, rfl, hc, h _ fun v H1 hq => ⟨_, rfl, rfl, _, rfl, iteT hq⟩⟩
    rintro cls d σ' H1 hx hl
    have hs : ∀ a : Addr, (((σ'.set 2 (some (.ref a))).set 1 (some (.ref a))).set 2 none)[1]? = some (some (V.ref a)) := fun a => by simp [hl]
    cases hx with
    | inv hd k =>
      rename_i dd z
      refine ⟨T.ex, fun a ha => ?_⟩
      have s1 := same_at (o := Kept a (.ref CI) (some dd)) ha
      have hk : KeAt (upd H1 a (Kept a (.ref CI) (some dd))) a CI [("reason", .str z)] := ⟨dd, upd_same, s1 _ _ hd⟩
      refine ⟨_, hs a, rfl, _, rfl, iteF ?_⟩
      refine ⟨_, hs a, a, CI, _, _, _, true, rfl, .own _, hk, T.ke, T.ii, _, rfl, iteT ?_⟩
      refine ⟨_, hs a, a, CI, _, _, _, true, rfl, .ty _, hk, T.ke, T.iv, _, rfl, iteT ?_⟩
      exact ⟨_, hs a, a, CI, _, _, rfl, hk, T.ke, T.no, by rw [List.lookup_cons, beq_self_eq_true], k _ s1⟩
end
section
variable {K : PySem.W.Frag} {ks : Kinds} {CF : Addr} {H H' : Hp}
theorem sqL_ext {a : Addr} {xs : List V} (h : SqL K H a xs) (s : ExtN H H') : SqL K H' a xs := by
  rcases h with (h | ⟨o, h⟩) | h
  · exact .inl (.inl (s _ _ h fun ps z => by cases z))
  · exact .inl (.inr ⟨o, s _ _ h fun ps z => by cases z⟩)
  · exact .inr h
theorem sqT_ext {a : Addr} {xs : List V} (h : SqT K H a xs) (s : ExtN H H') : SqT K H' a xs := by
  rcases h with (h | ⟨o, h⟩) | h
  · exact .inl (.inl (s _ _ h fun ps z => by cases z))
  · exact .inl (.inr ⟨o, s _ _ h fun ps z => by cases z⟩)
  · exact .inr h
theorem rd_ext {a : Addr} {u : HO} (h : Rd H a u) (n : ∀ ps, u ≠ .tbl ps) (s : ExtN H H') : Rd H' a u := by
  rcases h with h | ⟨o, h⟩
  · exact .inl (s _ _ h n)
  · exact .inr ⟨o, s _ _ h fun ps z => by cases z⟩
mutual
theorem dq_ext (s : ExtN H H') : ∀ {x : V} {d : PyData}, Dq K H x d → Dq K H' x d
  | _, _, .non => .non
  | _, _, .bl b => .bl b
  | _, _, .int i => .int i
  | _, _, .str x => .str x
  | _, _, .lst n h r => .lst n (sqL_ext h s) (dqa_ext s r)
  | _, _, .tup h r => .tup (sqT_ext h s) (dqa_ext s r)
  | _, _, .dic h => .dic (rd_ext h (fun ps z => by cases z) s)
  | _, _, .di1 h => .di1 (rd_ext h (fun ps z => by cases z) s)
theorem dqa_ext (s : ExtN H H') : ∀ {xs : List V} {ds : List PyData}, DqAll K H xs ds → DqAll K H' xs ds
  | _, _, .nil => .nil
  | _, _, .cons h r => .cons (dq_ext s h) (dqa_ext s r)
end
mutual
theorem dp_ext (s : ExtN H H') : ∀ {x : V} {d : PyData}, Dp K H x d → Dp K H' x d
  | _, _, .non => .non
  | _, _, .bl b => .bl b
  | _, _, .int i => .int i
  | _, _, .str x => .str x
  | _, _, .lst h r => .lst (sqL_ext h s) (dpa_ext s r)
  | _, _, .tup h r => .tup (sqT_ext h s) (dpa_ext s r)
theorem dpa_ext (s : ExtN H H') : ∀ {xs : List V} {ds : List PyData}, DpAll K H xs ds → DpAll K H' xs ds
  | _, _, .nil => .nil
  | _, _, .cons h r => .cons (dp_ext s h) (dpa_ext s r)
end
mutual
theorem dq_dp : ∀ {x : V} {d : PyData}, Dq K H x d → d.hasDict = false → Dp K H x d
  | _, _, .non, _ => .non
  | _, _, .bl b, _ => .bl b
  | _, _, .int i, _ => .int i
  | _, _, .str x, _ => .str x
  | _, _, .lst n h r, e => .lst h (dqa_dpa r e)
  | _, _, .tup h r, e => .tup h (dqa_dpa r e)
  | _, _, .dic h, e => by cases e
  | _, _, .di1 h, e => by cases e
theorem dqa_dpa : ∀ {xs : List V} {ds : List PyData}, DqAll K H xs ds → PyData.hasDictAll ds = false → DpAll K H xs ds
  | _, _, .nil, _ => .nil
  | _, _, .cons h r, e => .cons (dq_dp h (Bool.or_eq_false_iff.mp e).1) (dqa_dpa r (Bool.or_eq_false_iff.mp e).2)
end
theorem noDict_all : ∀ {ds : List PyData}, (∀ d ∈ ds, d.hasDict = false) → PyData.hasDictAll ds = false
  | [], _ => rfl
  | d :: ds, h => Bool.or_eq_false_iff.mpr ⟨h d List.mem_cons_self, noDict_all fun x hx => h x (List.mem_cons_of_mem _ hx)⟩
theorem tyx_ext {x : V} {t : Value} (h : TyX K H x t) (s : ExtN H H') : TyX K H' x t := by
  cases h with
  | base b =>
    refine .base ?_
    cases b with
    | non => exact .non
    | bl x => exact .bl x
    | int i => exact .int i
    | str x => exact .str x
    | flt x => exact .flt x
    | lst e => exact .lst (s _ _ e fun ps z => by cases z)
    | frz e => exact .frz (s _ _ e fun ps z => by cases z)
    | tup e => exact .tup (s _ _ e fun ps z => by cases z)
    | dK e => exact .dK (s _ _ e fun ps z => by cases z)
    | dT e => exact .dT (s _ _ e fun ps z => by cases z)
    | ins e c h1 h2 h3 h4 => exact .ins (s _ _ e fun ps z => by cases z) c h1 h2 h3 h4
  | byt b => exact .byt b
  | set e => exact .set (s _ _ e fun ps z => by cases z)
  | kList e c => exact .kList e c
  | kTuple e c => exact .kTuple e c
  | kDict e c => exact .kDict e c
  | fTuple e => exact .fTuple (s _ _ e fun ps z => by cases z)
  | fDict e => exact .fDict (s _ _ e fun ps z => by cases z)
theorem LegR.ok.ext {r : LegR} (h : r.ok ks H) (s : ExtN H H') : r.ok ks H' := by
  obtain ⟨h1, dx, e⟩ := h
  exact ⟨h1, dx, s _ _ e fun ps z => by cases z⟩
theorem FrIs.ext {a : Addr} {d : FrD} (h : FrIs ks CF H a d) (s : ExtN H H') : FrIs ks CF H' a d := by
  obtain ⟨dx, D, h1, h2, h3⟩ := h.at_
  exact ⟨⟨dx, D, s _ _ h1 (fun ps z => by cases z), s _ _ h2 (fun ps z => by cases z), h3⟩, fun r hr => (h.ok r hr).ext s, h.nd, h.le, h.so⟩
theorem BareAt.ext {b p : Addr} {d : BareD} (h : BareAt H b d p) (s : ExtN H H') : BareAt H' b d p := by
  obtain ⟨dl, ll, rl, h1, h2, h3, h4, h5⟩ := h.ex
  exact ⟨dl, ll, rl, s _ _ h1 (fun ps z => by cases z), s _ _ h2 (fun ps z => by cases z), s _ _ h3 (fun ps z => by cases z), s _ _ h4 (fun ps z => by cases z), h5⟩
theorem Pen.ext {p l : Addr} {cs : List Int} {n : Nat} (h : Pen H p l cs n) (s : ExtN H H') : Pen H' p l cs n := by
  obtain ⟨i, g, h1, h2, h3⟩ := h
  exact ⟨i, g, s _ _ h1 (fun ps z => by cases z), s _ _ h2 (fun ps z => by cases z), h3⟩
theorem tabs_but {T : List (Addr × Str)} {p : Addr} {xs : List V} (h : Tabs T H) (hp : H p = some (.lst xs)) (b : But H H' p) : Tabs T H' := fun q hq => by
  obtain ⟨ps, h1, h2, h3⟩ := h q hq
  refine ⟨ps, b _ _ (ne_of h1 hp (by intro z; cases z)) h1, h2, fun pos cv hc => ?_⟩
  obtain ⟨c, e1, e2⟩ := h3 pos cv hc
  refine ⟨c, e1, b _ _ (ne_of e2 hp fun z => ?_) e2⟩
  unfold CodeO at z
  cases z
/-- how a value is shown -/
def ShV (K : PySem.W.Frag) (H : Hp) (x : V) (s : Str) : Prop := (∃ d, Dq K H x d ∧ Fit d ∧ d.shown = s) ∨ ∃ d, Dp K H x d ∧ ShN.FitN d ∧ d.shown = s
theorem ShV.ext {x : V} {z : Str} (h : ShV K H x z) (s : ExtN H H') : ShV K H' x z := h.imp (fun ⟨d, a, b⟩ => ⟨d, dq_ext s a, b⟩) (fun ⟨d, a, b⟩ => ⟨d, dp_ext s a, b⟩)
end
def rShV (K : PySem.W.Frag) : List V → Hp → VK → Prop := fun xs H Q => rShow K xs H Q ∨ ShN.rShN K xs H Q
theorem call_shV {X : Cx} (hg : X.A.guards = some []) (hu : X.A.units + 64 < cLine) : CallR X (.builtin "repr") (rShV X.K) := by
  intro pins s σ H xs us Q I r h
  rcases h with h | h
  · exact call_show hg hu pins s σ H xs us Q I r h
  · exact ShN.call_shN hg hu pins s σ H xs us Q I r h
theorem shV_rd {K : PySem.W.Frag} {H : Hp} {x : V} {z : Str} {Q : VK} (h : ShV K H x z) (k : Q (.str z) H) : rShV K [x] H Q := by
  rcases h with ⟨d, a, b, rfl⟩ | ⟨d, a, b, rfl⟩
  · exact .inl ⟨x, d, rfl, a, b, k⟩
  · exact .inr ⟨x, d, rfl, a, b, k⟩
structure Sd (k n : Nat) (d : PyData) : Prop where
  sh : PyData.showable d = true
  ls : PyData.leavesShort 40 d = true
  dp : d.depth ≤ k
  bk : d.bulk ≤ n
structure SdA (k n : Nat) (ds : List PyData) : Prop where
  sh : PyData.showableAll ds = true
  ls : PyData.leavesShortAll 40 ds = true
  dp : PyData.depthAll ds ≤ k
  bk : PyData.bulkAll ds ≤ n
theorem Sd.mono {k n k' n' : Nat} {d : PyData} (h : Sd k n d) (hk : k ≤ k') (hn : n ≤ n') : Sd k' n' d := ⟨h.sh, h.ls, Nat.le_trans h.dp hk, Nat.le_trans h.bk hn⟩
theorem SdA.all {k n : Nat} : ∀ {ds : List PyData}, (∀ d ∈ ds, Sd k n d) → SdA k (ds.length * (n + 1)) ds
  | [], _ => ⟨rfl, rfl, Nat.zero_le _, Nat.zero_le _⟩
  | d :: ds, h => by
    have t := SdA.all (k := k) (n := n) (ds := ds) fun x hx => h x (List.mem_cons_of_mem _ hx)
    have c := h d List.mem_cons_self
    refine ⟨Bool.and_eq_true_iff.mpr ⟨c.sh, t.sh⟩, Bool.and_eq_true_iff.mpr ⟨c.ls, t.ls⟩, Nat.max_le.mpr ⟨c.dp, t.dp⟩, ?_⟩
    show d.bulk + 1 + PyData.bulkAll ds ≤ _
    have := c.bk
    have := t.bk
    rw [List.length_cons, Nat.succ_mul]
    omega
theorem Sd.lst {k n : Nat} {ds : List PyData} (h : SdA k n ds) : Sd (k + 1) n (.list ds) := ⟨h.sh, h.ls, Nat.succ_le_succ h.dp, h.bk⟩
theorem Sd.tup {k n : Nat} {ds : List PyData} (h : SdA k n ds) : Sd (k + 1) n (.tuple ds) := ⟨h.sh, h.ls, Nat.succ_le_succ h.dp, h.bk⟩
theorem Sd.fit {k n : Nat} {d : PyData} (h : Sd k n d) (hk : k ≤ 60) (hn : n ≤ 100000) : Fit d := by
  refine ⟨h.sh, Nat.le_trans h.dp hk, ?_⟩
  have b := PyData.shown_le_bulk 40 (by decide) d h.ls
  have := h.bk
  rw [sizeLine_eq]
  omega
theorem lf_sd {d : PyData} (h : lf d = true) : Sd 2 20 d := by
  unfold lf at h
  rw [Bool.and_eq_true, Bool.and_eq_true, Bool.and_eq_true, decide_eq_true_eq, decide_eq_true_eq] at h
  exact ⟨h.1.1.1, h.1.1.2, h.1.2, h.2⟩
theorem SzR.sd {N M : Nat} {rs : List PyData} (h : SzR N M rs) (hN : N ≤ 30) (hM : M ≤ 25) : SdA 3 40000 rs := by
  have r : ∀ r ∈ rs, Sd 3 600 r := fun r hr => by
    rcases h.row r hr with ⟨es, e, hl, he⟩ | ⟨hl, _⟩
    · have a := SdA.all (k := 2) (n := 20) (ds := es) fun e h' => lf_sd (he e h')
      have hb : es.length * 21 ≤ 600 := by
        have : es.length * 21 ≤ 25 * 21 := Nat.mul_le_mul_right _ (by omega)
        omega
      cases r with
      | list ds =>
        obtain rfl := Option.some.inj e
        exact (Sd.lst a).mono (Nat.le_refl _) hb
      | tuple ds =>
        obtain rfl := Option.some.inj e
        exact (Sd.tup a).mono (Nat.le_refl _) hb
      | _ => cases e
    · exact (lf_sd hl).mono (by decide) (by decide)
  have a := SdA.all r
  have hl := h.len
  exact ⟨a.sh, a.ls, a.dp, Nat.le_trans a.bk (by have : rs.length * 601 ≤ 30 * 601 := Nat.mul_le_mul_right _ (by omega); omega)⟩
theorem off_ext {p : Addr} {H H' : Hp} (x : ExtN H H') : ∀ a o, off p H a = some o → (∀ ps, o ≠ .tbl ps) → off p H' a = some o := fun a o e n => by
  unfold off at e ⊢
  split at e
  · cases e
  · rename_i q
    rw [if_neg q]
    exact x a o e n
theorem RowsAt.ext {H H' : Hp} {p a : Addr} {rs : List PyData} (h : RowsAt H p a rs) (x : ExtN H H') : RowsAt H' p a rs := by
  obtain ⟨xs, h1, h2, h3, h4⟩ := h
  exact ⟨xs, x _ _ h1 (fun ps z => by cases z), h2, h3.keep (off_ext x), h4⟩
theorem RowsAt.sh {K : PySem.W.Frag} {H : Hp} {p a : Addr} {rs : List PyData} (h : RowsAt H p a rs) (sd : SdA 3 40000 rs) : ShV K H (.ref a) (PyData.shown (.list rs)) := by
  obtain ⟨xs, h1, h2, h3, h4⟩ := h
  have hd := (h3.same off_in).dq (K := K)
  have ft := (Sd.lst sd).fit (by decide) (by decide)
  rcases h4 with hn | hn
  · exact .inl ⟨_, .lst hn (SqL.of h1) hd, ft, rfl⟩
  · exact .inr ⟨_, .lst (SqL.of h1) (dqa_dpa hd (noDict_all hn)), ⟨ft.sh, ft.dp, ft.sz, noDict_all hn⟩, rfl⟩
/-- reading _law_heard(lambda: ..) -/
theorem hr_rd {T : List (Addr × Str)} {CI : Addr} {t : XK → TE} {σ : L2.St} {H : Hp} {Q : VK} {v : V} (hT : Tabs T H)
    (h : ∀ H1, ExtN H H1 → Tabs T H1 → ∀ (Qn : VK) (E : XK), (∀ z, v = .str z → ∀ dd H', errH H1 H' dd "reason" (.str z) → E (.ref CI) (some dd) H') → (v = .non → ∀ u H', Same H1 H' → Qn u H') → t E σ H1 Qn)
    (k : ∀ H2, ExtN H H2 → Tabs T H2 → Q v H2) : tLam T (TThea CI) t σ H Q :=
  ⟨hT, fun H1 x1 T1 Q' hq => h H1 x1 T1 _ _ (fun z e dd H' er => .inv er.2.1 fun H2 s2 => by
      rw [← e]
      exact k H2 (x1.trans (.of (er.2.2.trans s2))) (T1.ext (er.2.2.trans s2))) (fun e u H' s => hq u H' (by
      rw [← e]
      exact k H' (x1.trans (.of s)) (T1.ext s)))⟩
theorem extN_new {H H1 H2 : Hp} {l : Addr} {o : HO} (x : ExtN H H2) (x1 : ExtN H H1) (hl : H1 l = none) : ExtN H (upd H2 l o) := fun c u e n => by
  rw [upd_ne fun q => by rw [q] at e; have := x1 _ _ e n; rw [hl] at this; cases this]
  exact x c u e n
theorem rails_nd (g r : Bool) : (railsZ g r).Nodup := by cases g <;> cases r <;> decide +kernel
theorem rails_out {g r : Bool} {z : Str} (h : z ∈ railsZ g r) : z ∉ poolS := by
  revert z
  cases g <;> cases r <;> decide +kernel
theorem memB_nd {d : BareD} (ok : d.ok) : (memB d).Nodup := List.nodup_append.mpr ⟨ok.nd, rails_nd _ _, fun a ha b hb e => rails_out hb (e ▸ ok.po a ha)⟩
theorem kinds_names {ks : Kinds} {ys : List LegR} {ds ls : List Str} (h : KindsOf ks ys ds ls) : (names ys).Perm (ds ++ ls) := by
  obtain ⟨r1, r2, hp, e1, e2, _⟩ := h
  have := hp.map (fun r : LegR => r.z)
  rw [List.map_append] at this
  rw [← e1, ← e2]
  exact this
theorem kinds_mem {ks : Kinds} {ys : List LegR} {d e : BareD} (h : KindsOf ks ys e.ds e.ls) (p : (e.ds ++ e.ls).Perm (d.ds ++ d.ls)) (hg : e.g = d.g) (hr : e.r = d.r) : (membZ ⟨ys, e.t, e.g, e.r⟩).Perm (memB d) := by
  show (names ys ++ railsZ e.g e.r).Perm (d.ds ++ d.ls ++ railsZ d.g d.r)
  rw [hg, hr]
  exact ((kinds_names h).trans p).append_right _
/-- Frame(leg, ..) -/
theorem fr_rd {K : PySem.W.Frag} {ks : Kinds} {CI CF : Addr} {rs : List LegR} {t : Int} {g r : Bool} {zs : List V} {gV : List V → List V → List V} {H : Hp} {Q : VK} (hg : ∀ v, gV [v] zs = [v, .int t, .bl g, .bl r]) (hok : ∀ r ∈ rs, r.ok ks H) (nd : (names rs).Nodup) (le : rs.length ≤ 40) (t1 : 1 ≤ t) (t3 : t ≤ 3)
    (k : ∀ a ys H', H a = none → ys.Perm rs → FrIs ks CF H' a ⟨ys, t, g, r⟩ → Same H H' → Q (.ref a) H') : spMk CF (spStarK 1 gV (spFrI K ks CI CF)) E0 (refs rs) zs H Q := by
  intro a dx ha hdx hne
  have hl : (refs rs).length = rs.length := List.length_map _
  have s1 : Same H (upd (upd H dx (.own a)) a (.ins CF dx [])) := fun b o e => by rw [upd_ne (ne_of_none e ha), upd_ne (ne_of_none e hdx)]; exact e
  refine ⟨[.ref a], refs rs, rfl, rfl, Nat.le_trans (show _ ≤ 40 by omega) (by decide), fun p hp => ?_⟩
  have s2 := same_at (o := .tup (refs rs)) hp
  have hdue : due (names rs) true (true && true) = .non := by
    unfold due
    rw [show (names rs).length = rs.length from List.length_map _, if_neg (by omega), if_pos nd]
    rfl
  refine ⟨a, dx, p, refs rs, .int t, .bl g, .bl r, true, true, true, by rw [hg]; rfl, s2 _ _ upd_same, upd_same, by omega, topIn t1 t3, railIn, railIn, .inr ⟨rs, rfl, fun r hr => ((hok r hr).same s1).same s2, fun z hz => ?_, fun _ H' ys ho hf b => ⟨rfl, ?_⟩⟩⟩
  · rw [hdue] at hz
    cases hz
  · have s3 : Same H H' := fun c o e => b c o (ne_of_none e ha) (s2 _ _ (s1 _ _ e))
    exact k a ys H' ha ho.1 ⟨hf, fun r hr => (hok r (ho.1.mem_iff.mp hr)).same s3, (ho.1.map _).nodup_iff.mpr nd, by rw [ho.1.length_eq]; exact le, ho.2⟩ s3
theorem mkS_i {C : Addr} {m : Nat} {sp : List V → List V → Hp → VK → XK → Prop} {E : XK} {t tk : TA} {σ : L2.St} {H : Hp} {Q : VK} (h : t σ H fun vs H1 => tk σ H1 fun zs H2 => zs.length = m ∧ spMk C sp E vs zs H2 Q) : tMakeS C m sp E t tk σ H Q := h
abbrev ksG : List Str := ["ground", "power"]
/-- Frame(leg, .., ground = g, power = r) -/
theorem fr_kwG {P : Program} {w : World} {K : PySem.W.Frag} {mg : Str → Option Value} {base : Heap} {CI fI CF f : Addr} {fd : FuncData} {ks : Kinds} (F : FunD K "__init__" "Frame.__init__" (defArgs sFrI) (defBody sFrI) (defScope sFrI) [] kwsF f fd) (T : FrT P w K mg base ks CI fI CF) :
    FnK P w K mg base (L2.CX P w) 4 f ksG (spStarK 1 (fun vs zs => vs ++ ([.int 1] ++ zs)) (spFrI K ks CI CF)) :=
  fn_starK (ps := ["self", "top", "ground", "power"]) (pv := "legs") F scFrI StX.cxUp 1 ksG [("top", .int 1)] (fun us mv ws => us ++ (mv ++ ws)) (by decide) (fun q h => by
      rw [List.mem_singleton.mp h]; exact List.mem_cons_self) (fun r1 r2 r3 => r1.append (r2.append r3))
    (fun us mv ws h1 h2 h3 => by rw [List.length_append, List.length_append, h1, h2, h3] <;> rfl)
    (fun D doc pm an cdv ct us rest mv ws h1 h2 h3 => match us, rest, mv, ws, h1, h2, h3 with
      | [a], [], [x], [p, q], _, _, _ => ⟨_, _, _, _, _, _, rfl, rfl, rfl⟩
      | [a], r :: rs, [x], [p, q], _, _, _ => ⟨_, _, _, _, _, _, rfl, rfl, rfl⟩)
    (fun cdv A outer s H vs Q E hr h => body_frI T cdv A outer s H vs Q E hr h)
theorem due_four (ms : List Str) (rs : List PyData) : due10 ms rs = .non ∨ due10 ms rs = .str "blocks" ∨ due10 ms rs = .str "name" ∨ due10 ms rs = .str "twice" ∨ due10 ms rs = .str "rails" := by
  unfold due10
  split
  · exact .inr (.inl rfl)
  split
  · exact .inr (.inr (.inl rfl))
  split
  · split
    · exact .inr (.inr (.inr (.inr rfl)))
    · exact .inl rfl
  · exact .inr (.inr (.inr (.inl rfl)))
theorem due10_mem {ms ms' : List Str} (hp : ms.Perm ms') (rs : List PyData) : due10 ms rs = due10 ms' rs := by
  have e : inL ms = inL ms' := by
    funext d
    cases d with
    | str z => exact decide_eq_decide.mpr hp.mem_iff
    | _ => rfl
  unfold due10
  rw [e]
/-- a reason, or none, as data -/
theorem due_dp {K : PySem.W.Frag} {v : V} (h : v = .non ∨ v = .str "blocks" ∨ v = .str "name" ∨ v = .str "twice" ∨ v = .str "rails") : ∃ dd : PyData, (∀ H, Dp K H v dd) ∧ SeqAt.shaped (.list [dd, dd]) = true ∧ PyData.eqv (.list [dd, dd]) (.list [dd, dd]) = true ∧ scal v v = true := by
  rcases h with rfl | rfl | rfl | rfl | rfl
  · exact ⟨_, fun _ => .non, by decide +kernel, by decide +kernel, rfl⟩
  · exact ⟨_, fun _ => .str _, by decide +kernel, by decide +kernel, rfl⟩
  · exact ⟨_, fun _ => .str _, by decide +kernel, by decide +kernel, rfl⟩
  · exact ⟨_, fun _ => .str _, by decide +kernel, by decide +kernel, rfl⟩
  · exact ⟨_, fun _ => .str _, by decide +kernel, by decide +kernel, rfl⟩
end Sj
namespace Sj
open PySem L2 Sup StK Own Shw Exg Grd KepE
open NdefX (NF NScope ncx envF startF nscope_by)
open C8 (pss_cut tCut)
/-! k09: _law_board -/
section
variable {P : Program} {w : World} {K : PySem.W.Frag} {mg : Str → Option Value} {base : Heap}
theorem FrIs.keepP {ks : Kinds} {CF : Addr} {H H' : Hp} {p l : Addr} {cs : List Int} {n : Nat} {a : Addr} {d : FrD} (h : FrIs ks CF H a d) (hP : Pen H p l cs n) (b : But H H' p) : FrIs ks CF H' a d := by
  obtain ⟨dx, D, h1, h2, h3⟩ := h.at_
  refine ⟨⟨dx, D, b.keep hP h1 (fun ys z => by cases z), b.keep hP h2 (fun ys z => by cases z), h3⟩, fun r hr => ?_, h.nd, h.le, h.so⟩
  obtain ⟨hc, dy, hl⟩ := h.ok r hr
  exact ⟨hc, dy, b.keep hP hl fun ys z => by cases z⟩
end
end Sj
namespace Sj
open PySem L2 Sup StK Own Shw Exg Grd KepE LamX
open NdefX (NF NScope ncx envF startF nscope_by)
open C8 (pss_cut tCut)
/-! k10: the law -/
abbrev sLaw10 : Stmt := top 42
abbrev nL10 : List Str := ["_law_script", "_law_pen_here", "_law_turn", "_law_bare_here", "_law_frame_so", "_law_row", "_law_time", "_law_block", "_law_kept", "_law_due_here", "_law_told", "_law_pair", "_law_odd_here", "_law_plain", "_law_found"]
theorem scL10 : FnScope nL10 ["_law_script"] (defScope sLaw10) := ⟨rfl, rfl, rfl, by decide +kernel, rfl, by decide +kernel, by decide +kernel⟩
abbrev qL10 : Str := (("law" : Str) ++ ".<locals>.") ++ "<lambda>"
abbrev tab1 (Pt : Addr) : List (Addr × Str) := [(Pt, qL10)]
structure L10T (P : Program) (w : World) (K : PySem.W.Frag) (mg : Str → Option Value) (base : Heap) (ks : Kinds) (CF CI CV CB CJ gO fB fF : Addr) : Prop where
  pen : Fi P w K mg base "_law_pen" 1 ["_law_script"] (spPen K)
  draw : Fi P w K mg base "_law_draw" 1 ["_law_pen_here", "_law_many"] spDraw
  pick : Fi P w K mg base "_law_pick" 2 ["_law_pen_here", "_law_some"] spPick
  bare : Fi P w K mg base "_law_bare" 3 ["_law_pen_here", "_law_most"] spBare
  frm : Fi P w K mg base "_law_frame" 7 ["_law_bare_here"] (spFrm ks CF)
  par : Fi P w K mg base "_law_parted" 3 ["_law_pen_here", "_law_bare_here"] spPar
  ben : Fi P w K mg base "_law_bent" 4 ["_law_pen_here", "_law_bare_here", "_law_row"] spBen
  due : Fi P w K mg base "_law_due" 3 ["_law_bare_here", "_law_row"] spDue
  he : ∃ g fdg, mg "_law_heard" = some (.ref g) ∧ Fun K "_law_heard" "_law_heard" sHea g fdg ∧ Binds K fdg ["_law_ask"] []
  ht : HeT K mg CJ CV
  mB : mg "Board" = some (.ref CB)
  cls : ∃ mc pO, ClX.CRead K CB mc ∧ ClX.CMet K CB mc "of" pO gO
  of0 : FnK P w K mg base (L2.CX P w) 7 gO [] (fun vs zs H Q E => vs.length = 3 ∧ spBOfA K ks CF CV CB vs H Q E)
  ofK : FnK P w K mg base (L2.CX P w) 7 gO ["blocks", "frame"] (fun vs zs H Q E => vs.length = 1 ∧ spBOfA K ks CF CV CB (vs ++ zs.reverse) H Q E)
  mkB : Mk K CB fB
  boS : FnR P w K mg base (L2.CX P w) 5 fB (spBoSA ks CF CV CB)
  d : MkL P w K mg base CI ks.drv "Driver"
  ne : ks.drv ≠ ks.lis
  mkF : Mk K CF fF
  frG : FnK P w K mg base (L2.CX P w) 4 fF ksG (spStarK 1 (fun vs zs => vs ++ ([.int 1] ++ zs)) (spFrI K ks CI CF))
  mF : mg "Frame" = some (.ref CF)
  list : mg "list" = none
  tuple : mg "tuple" = none
  range : mg "range" = none
  isi : mg "isinstance" = none
  repr : mg "repr" = none
def spLaw10 (K : PySem.W.Frag) (Pt : Addr) : Sp1 := fun v H Q => ∃ (a : Addr) (ns : List Int), v = .ref a ∧ SqL K H a (ns.map V.int) ∧ ns.length ≤ 63 ∧ Tabs (tab1 Pt) H ∧ ∀ H', Q (.bl true) H'
def tRw (K : PySem.W.Frag) (v : Nat) : TE := tCB (fun xs H Q => ∃ p ys, xs = [V.ref p] ∧ ((SqL K H p ys ∧ ∀ l, H l = none → Q (.ref l) (upd H l (.tup ys))) ∨ (SqT K H p ys ∧ Q (.ref p) H))) (tCons (tVar v) tNil)
def teO1 (K : PySem.W.Frag) (ks : Kinds) (CF CV CB : Addr) (j : Nat) : XK → TE := fun E => tCMethK CB ([] : List Str).length (fun vs zs H Q E => vs.length = 3 ∧ spBOfA K ks CF CV CB vs H Q E) E (tC (.ref CB)) (tCons (tVar 4) (tCons (tVar j) tNil)) tNil
def teO2 (K : PySem.W.Frag) (ks : Kinds) (CF CV CB : Addr) : XK → TE := fun E => tCMethK CB (["blocks", "frame"] : List Str).length (fun vs zs H Q E => vs.length = 1 ∧ spBOfA K ks CF CV CB (vs ++ zs.reverse) H Q E) E (tC (.ref CB)) tNil (tCons (tRw K 5) (tCons (tVar 4) tNil))
def teMB (ks : Kinds) (CF CV CB : Addr) (ta : TA) : XK → TE := fun E => StX.tMakeR CB (spBoSA ks CF CV CB) E ta
abbrev taPr (K : PySem.W.Frag) : TA := tCons (tVar 4) (tCons (tOp (rIxL K) (tVar 11) (tC (.int 0))) (tCons (tOp (rIxL K) (tVar 11) (tC (.int 1))) tNil))
abbrev tL2 (x y : Str) : TE := tLstN (tCons (tC (.str x)) (tCons (tC (.str y)) tNil))
abbrev taF1 : TA := tCons (tVar 13) (tCons (tL2 "a" "a") (tCons (tLstN (tCons (tC (.str "x")) tNil)) tNil))
abbrev taF2 : TA := tCons (tVar 13) (tCons (tL2 "ground" "power") (tCons (tL2 "a" "a") tNil))
abbrev taF3 : TA := tCons (tVar 13) (tCons (tLstN (tCons (tC (.str "ground")) (tCons (tC (.str "a")) (tCons (tC (.str "power")) tNil)))) tNil)
def ttIs (K : PySem.W.Frag) : TT := tB (teSq K 7)
abbrev stL10 (sc p : Addr) (o2 o3 o4 o5 o6 o8 o9 o10 o11 o12 o13 o14 : Option V) : List (Option V) := [some (.ref sc), some (.ref p), o2, o3, o4, o5, o6, none, o8, o9, o10, o11, o12, o13, o14]
theorem noX {X : Cx} : Takes X (fun cls d _ H => C8.E0 cls d H) := fun u s' h => by
  obtain ⟨a, B, sI, pins, σ, H, cls, d, e, I, nb, up, sky, na, os, ag, w⟩ := h
  exact (show False from w).elim
/-- what stands while the turns go on -/
structure I10 (ks : Kinds) (CF : Addr) (T : List (Addr × Str)) (H : Hp) (p l : Addr) (cs : List Int) (b m a : Addr) (d : BareD) (fr : FrD) (rs : List PyData) : Prop where
  ba : BareAt H b d p
  fr_ : FrIs ks CF H m fr
  ro : RowsAt H p a rs
  tb : Tabs T H
theorem I10.ext {ks : Kinds} {CF : Addr} {T : List (Addr × Str)} {H H' : Hp} {p l b m a : Addr} {cs : List Int} {d : BareD} {fr : FrD} {rs : List PyData} (h : I10 ks CF T H p l cs b m a d fr rs) (x : ExtN H H') (t : Tabs T H') : I10 ks CF T H' p l cs b m a d fr rs := ⟨h.ba.ext x, h.fr_.ext x, h.ro.ext x, t⟩
theorem I10.same {ks : Kinds} {CF : Addr} {T : List (Addr × Str)} {H H' : Hp} {p l b m a : Addr} {cs : List Int} {d : BareD} {fr : FrD} {rs : List PyData} (h : I10 ks CF T H p l cs b m a d fr rs) (s : Same H H') : I10 ks CF T H' p l cs b m a d fr rs := h.ext (.of s) (h.tb.ext s)
theorem I10.but {ks : Kinds} {CF : Addr} {T : List (Addr × Str)} {H H' : Hp} {p l b m a : Addr} {cs : List Int} {n : Nat} {d : BareD} {fr : FrD} {rs : List PyData} (h : I10 ks CF T H p l cs b m a d fr rs) (P : Pen H p l cs n) (s : But H H' p) : I10 ks CF T H' p l cs b m a d fr rs := by
  obtain ⟨xs, hp⟩ := P.at'
  exact ⟨h.ba.but P s, h.fr_.keepP P s, h.ro.but s, tabs_but h.tb hp s⟩
def rowD (x : Addr × List Str) : PyData := .list (x.2.map PyData.str)
theorem dha_strv {H : Hp} : ∀ zs : List Str, DhAll H (strv zs) (zs.map PyData.str)
  | [] => .nil
  | z :: zs => .cons (.str z) (dha_strv zs)
theorem blL_at {H : Hp} {p q : Addr} {Bl : List (Addr × List Str)} (h : BlL H q [p, sysModules] Bl) (hq : q ≠ p) : RowsAt H p q (Bl.map rowD) := by
  have go : ∀ Bl : List (Addr × List Str), (∀ x ∈ Bl, H x.1 = some (.lst (strv x.2)) ∧ x.2 ≠ [] ∧ x.1 ≠ q ∧ x.1 ∉ [p, sysModules]) → DhAll (off p H) (refsL Bl) (Bl.map rowD) := by
    intro Bl
    induction Bl with
    | nil => exact fun _ => .nil
    | cons x Bl ih =>
      intro hx
      obtain ⟨h1, _, _, h4⟩ := hx x List.mem_cons_self
      exact .cons (.lst (fun e => h4 (by rw [← e]; simp)) (off_at (fun e => h4 (by rw [e]; simp)) h1) (dha_strv _)) (ih fun y hy => hx y (List.mem_cons_of_mem _ hy))
  have nd : ∀ zs : List Str, PyData.hasDictAll (zs.map PyData.str) = false := fun zs => by
    induction zs with
    | nil => rfl
    | cons z zs ih => exact Bool.or_eq_false_iff.mpr ⟨rfl, ih⟩
  refine ⟨_, h.at_, hq, go Bl h.each, .inr fun r hr => ?_⟩
  obtain ⟨x, _, rfl⟩ := List.mem_map.mp hr
  exact nd _
theorem blL_sz {H : Hp} {q : Addr} {av : List Addr} {Bl : List (Addr × List Str)} {d : BareD} (ok : d.ok) (h : BlL H q av Bl) (hm : (allN Bl).Perm (memB d)) : SzR 18 18 (Bl.map rowD) := by
  have l18 : (allN Bl).length ≤ 18 := by
    rw [hm.length_eq]
    unfold memB
    rw [List.length_append, List.length_append]
    have := ok.le
    have := rails_le d.g d.r
    omega
  refine ⟨by rw [List.length_map]; exact Nat.le_trans (blk_le fun x hx => (h.each x hx).2.1) l18, fun r hr => ?_⟩
  obtain ⟨x, hx, rfl⟩ := List.mem_map.mp hr
  refine .inl ⟨_, rfl, ?_, fun e he => ?_⟩
  · rw [List.length_map]
    exact Nat.le_trans (List.Sublist.length_le (List.sublist_flatten_of_mem (List.mem_map.mpr ⟨x, hx, rfl⟩))) l18
  · obtain ⟨z, hz, rfl⟩ := List.mem_map.mp he
    exact mem_lf ok (hm.mem_iff.mp (List.mem_flatMap.mpr ⟨x, hx, hz⟩))
theorem rowsAt_full {H : Hp} {p a : Addr} {rs : List PyData} (h : RowsAt H p a rs) : ∃ xs, H a = some (.lst xs) ∧ DhAll H xs rs := by
  obtain ⟨xs, h1, _, h3, _⟩ := h
  exact ⟨xs, h1, h3.same off_in⟩
theorem dha_ext {H H' : Hp} {xs : List V} {rs : List PyData} (h : DhAll H xs rs) (x : ExtN H H') : DhAll H' xs rs := h.keep x
theorem two_of {α : Type} : ∀ {xs : List α}, xs.length = 2 → ∃ x y, xs = [x, y]
  | [x, y], _ => ⟨x, y, rfl⟩
/-- the odd values -/
def oddO (d1 : Addr) : List V := [.non, .str "a", .ref d1, .int 3, .bl true, .str "ab"]
theorem oddO_row {K : PySem.W.Frag} {H : Hp} {d1 : Addr} {x : V} (hx : x ∈ oddO d1) (h : H d1 = some (.dK [])) : ∃ t : String, TyX K H x (.type t) ∧ kitB t "list" = some false ∧ kitB t "tuple" = some false := by
  unfold oddO at hx
  simp only [List.mem_cons, List.not_mem_nil, or_false] at hx
  rcases hx with rfl | rfl | rfl | rfl | rfl | rfl
  · exact ⟨"NoneType", .base .non, by decide +kernel, by decide +kernel⟩
  · exact ⟨"str", .base (.str _), by decide +kernel, by decide +kernel⟩
  · exact ⟨"dict", .base (.dK h), by decide +kernel, by decide +kernel⟩
  · exact ⟨"int", .base (.int _), by decide +kernel, by decide +kernel⟩
  · exact ⟨"bool", .base (.bl _), by decide +kernel, by decide +kernel⟩
  · exact ⟨"str", .base (.str _), by decide +kernel, by decide +kernel⟩
section
variable {P : Program} {w : World} {K : PySem.W.Frag} {mg : Str → Option Value} {base : Heap}
theorem at_law {f c Pt CF CI CV CB CJ gO fB fF : Addr} {ks : Kinds} {oc kV doc pm ct : Value} {od an : Option Addr} {osl : Array (Option Value)} (lk : K.lookup f = some ⟨oc, od, .func (PySem.W.fnOf "law" "law" (defArgs sLaw10) (defBody sLaw10) (defScope sLaw10) .none kV doc pm an (.ref c) ct), osl⟩)
    (hcd : PySem.W.codeIn K (.ref c) "law" = true) (hb : ∀ (s : Shared) (u : Value), BindsTo s (PySem.W.fnOf "law" "law" (defArgs sLaw10) (defBody sLaw10) (defScope sLaw10) .none kV doc pm an (.ref c) ct) ⟨[u], []⟩ [("_law_script", u)]) (T : L10T P w K mg base ks CF CI CV CB CJ gO fB fF) (TB : TabB base mg c Pt) : AtCall P w K mg base f (spLaw10 K Pt) := by
  refine at_callC (k := 10) lk hcd scL10 ⟨rfl, by decide, by decide⟩ hb fun s H v Q hr h => ?_
  obtain ⟨sc, ns, rfl, hS, hlen, hT, k⟩ := h
  obtain ⟨fP, fdP, mP, kP, bP, GP⟩ := T.pen
  obtain ⟨fE, fdE, mE, kE, bE, GE⟩ := T.draw
  obtain ⟨fC, fdC, mC, kC, bC, GC⟩ := T.pick
  obtain ⟨fA, fdA, mA, kA, bA, GA⟩ := T.bare
  obtain ⟨fR, fdR, mR, kR, bR, GR⟩ := T.frm
  obtain ⟨fQ, fdQ, mQ, kQ, bQ, GQ⟩ := T.par
  obtain ⟨fN, fdN, mN, kN, bN, GN⟩ := T.ben
  obtain ⟨fU, fdU, mU, kU, bU, GU⟩ := T.due
  obtain ⟨⟨f1, fd1, MD, GD1, bD1⟩, mD1⟩ := T.d
  obtain ⟨g, fdg, mh, Fh, bh⟩ := T.he
  obtain ⟨och, odh, kVh, doch, pmh, anh, cdh, cth, oslh, rfl, lkh, hch⟩ := Fh.ex
  obtain ⟨mc, pO, cr, cO⟩ := T.cls
  have hgu : (callerA.deeper (PyProof.Rows.envOfC "law" (defScope sLaw10) s.heap.objs.size f (.ref c))).guards = some [] := rfl
  have hr1 := hr.mono (show 1 ≤ 10 by decide)
  have hr2 := hr.mono (show 2 ≤ 10 by decide)
  have hr3 := hr.mono (show 3 ≤ 10 by decide)
  have hr4 := hr.mono (show 4 ≤ 10 by decide)
  have hr5 := hr.mono (show 5 ≤ 10 by decide)
  have hr7 := hr.mono (show 7 ≤ 10 by decide)
  have hr9 := hr.mono (show 9 ≤ 10 by decide)
  have huT : ∀ p ∈ tab1 Pt, p.1 = Pt → p.2 = qL10 := fun p hp _ => by rw [List.mem_singleton.mp hp]
  have HG := heard_gives (X := (cxOf CX0 P w K mg base nL10 "law" (defScope sLaw10) f (.ref c) callerA [] s H E0).nox) (g := g) (cdg := cdh) (q := qL10) T.ht
  refine ⟨_, pss_cons (ps_set (i := 1) scL10.nd rfl (Or.inl rfl) (pe_call GP hr1 rfl mP kP bP .nil pass0 (pa_cons (pv 0) pa_nil)))
    (pss_cut (ps_for PassesOwn.never rfl (pi_range1 rfl T.range (pa_cons pe_int pa_nil)) (pg_name (i := 2) scL10.nd rfl (Or.inl rfl))
      (pss_cons (ps_set (i := 3) scL10.nd rfl (Or.inl rfl) (pe_call GA hr3 rfl mA kA bA .nil pass0 (pa_cons (pv 1) (pa_cons pe_int pa_nil))))
      (pss_cut (ps_asg (pe_tup (pa_cons (pe_call GR hr7 rfl mR kR bR .nil pass0 (pa_cons (pv 3) pa_nil)) (pa_cons (pe_call GQ hr3 rfl mQ kQ bQ .nil pass0 (pa_cons (pv 1) (pa_cons (pv 3) pa_nil))) pa_nil)))
        (pg_tup rfl (pgs_cons (pg_name (i := 4) scL10.nd rfl (Or.inr rfl)) (pgs_cons (pg_name (i := 5) scL10.nd rfl (Or.inr rfl)) pgs_nil))))
      (pss_cut (ps_for PassesOwn.never rfl (pi_range1 rfl T.range (pa_cons (pe_call GE hr1 rfl mE kE bE .nil pass0 (pa_cons (pv 1) (pa_cons pe_int pa_nil))) pa_nil)) (pg_name (i := 6) scL10.nd rfl (Or.inl rfl))
        (pss_one (ps_set (i := 5) scL10.nd rfl (Or.inr rfl) (pe_call GN hr4 rfl mN kN bN .nil pass0 (pa_cons (pv 1) (pa_cons (pv 3) (pa_cons
            (LcX.pe_lcN (E := C8.E0) (te := tVar 7) (tt := ttIs K) (own := [("_law_block", 7)]) (g := gName 7) rfl scL10.nd rfl rfl noX (pi_list (pv 5)) (blkOk_by (N := nL10) (sc := defScope sLaw10) (by decide +kernel)) (fun _ _ _ _ _ => pg_name (i := 7) scL10.nd rfl (Or.inl rfl))
              (fun _ _ _ _ _ => pts_one (pt_val (pe_callB call_isiT (by rfl) T.isi (by decide +kernel) (pa_cons (pv 7) (pa_cons (pe_tup (pa_cons (pe_bltn (by rfl) T.list (by decide +kernel) (v := .ty "list") rfl) (pa_cons (pe_bltn (by rfl) T.tuple (by decide +kernel) (v := .ty "tuple") rfl) pa_nil))) pa_nil))))) (fun _ _ _ _ _ => pv 7)) pa_nil)))))))
      (pss_cons (ps_par (i := 8) (j := 9) (by rfl) scL10.nd rfl rfl (by decide) rfl rfl (pa_cons (pe_callB (call_shV hgu hr.units) (by rfl) T.repr (by decide +kernel) (pa_cons (pv 5) pa_nil)) (pa_cons (pe_call GU hr3 rfl mU kU bU .nil pass0 (pa_cons (pv 3) (pa_cons (pv 5) pa_nil))) pa_nil)) (by rfl))
      (pss_cut (ps_set (i := 10) scL10.nd rfl (Or.inl rfl) (pe_lst (pa_cons (pe_lamcallG (t := teO1 K ks CF CV CB 5) (T := tab1 Pt) (Ng := nHea) (k := 7) (c := c) (P := Pt) rfl mh Fh.kp lkh hch bh scHea rfl (Or.inl rfl) HG TB rfl (List.mem_singleton.mpr rfl) huT hgu hr9 (lamS_by (sc := defScope sLaw10) (by decide +kernel)) rfl (fun _ _ _ _ _ => rfl)
          (fun B st s1 H1 E f' c' hgB hr' => pe_cmethK (pe_glob rfl T.mB (v := .ref CB) rfl) cr cO T.of0 hr' (passes_call (takes_of rfl rfl rfl rfl) fun _ _ _ _ h => h) (pa_cons (pv 4) (pa_cons (pv 5) pa_nil)) pk_nil)) pa_nil)))
      (pss_cut (ps_expr (pe_bm PySem.F.plainAttrs_list PySem.F.slot_list_append PySem.F.type_list_append mt_append (pv 10) (pa_cons (pe_lamcallG (t := teO2 K ks CF CV CB) (T := tab1 Pt) (Ng := nHea) (k := 7) (c := c) (P := Pt) rfl mh Fh.kp lkh hch bh scHea rfl (Or.inl rfl) HG TB rfl (List.mem_singleton.mpr rfl) huT hgu hr9 (lamS_by (sc := defScope sLaw10) (by decide +kernel)) rfl (fun _ _ _ _ _ => rfl)
          (fun B st s1 H1 E f' c' hgB hr' => pe_cmethK0 (pe_glob rfl T.mB (v := .ref CB) rfl) cr cO T.ofK hr' (passes_call (takes_of rfl rfl rfl rfl) fun _ _ _ _ h => h) (pk_cons (pe_callTy (T := "tuple") call_tuple_of (by rfl) T.tuple (by decide +kernel) (pa_cons (pv 5) pa_nil)) (pk_cons (pv 4) pk_nil)))) pa_nil)))
      (pss_cut (ps_if (PW.pt (pw_or (pt_cmpR (op_neD hr.units) (pv 10) (pe_op op_rep (pe_lst (pa_cons (pv 9) pa_nil)) pe_int) (nomark _)) (pw_or1 (pt_cmpR op_ne (pe_callB (call_shV hgu hr.units) (by rfl) T.repr (by decide +kernel) (pa_cons (pv 5) pa_nil)) (pv 8) (nomark _))))) (pss_one (ps_ret pe_bl)) pss_nil)
      (pss_cut (ps_set (i := 11) scL10.nd rfl (Or.inr rfl) (pe_slice sl_list (pe_op op_catN (pv 5) (pe_lst (pa_cons (pe_lstN pa_nil) (pa_cons pe_non pa_nil)))) po_none (po_some pe_int)))
      (pss_cut (ps_if (pt_cmpR op_ne (pe_lamcallG (t := teMB ks CF CV CB (taPr K)) (T := tab1 Pt) (Ng := nHea) (k := 7) (c := c) (P := Pt) rfl mh Fh.kp lkh hch bh scHea rfl (Or.inl rfl) HG TB rfl (List.mem_singleton.mpr rfl) huT hgu hr9 (lamS_by (sc := defScope sLaw10) (by decide +kernel)) rfl (fun _ _ _ _ _ => rfl)
          (fun B st s1 H1 E f' c' hgB hr' => StX.pe_makeR T.mkB T.boS (hr'.mono (show 6 ≤ 7 by decide)) rfl T.mB (passes_call (takes_of rfl rfl rfl rfl) fun _ _ _ _ h => h) (pa_cons (pv 4) (pa_cons (pe_ix ix_list (pv 11) pe_int (fun _ _ => rfl)) (pa_cons (pe_ix ix_list (pv 11) pe_int (fun _ _ => rfl)) pa_nil)))))
          (pe_call GU hr3 rfl mU kU bU .nil pass0 (pa_cons (pv 3) (pa_cons (pv 11) pa_nil))) (nomark _)) (pss_one (ps_ret pe_bl)) pss_nil)
      (pss_cut (ps_set (i := 12) scL10.nd rfl (Or.inr rfl) (pe_call GC hr2 rfl mC kC bC .nil pass0 (pa_cons (pv 1) (pa_cons (pe_lst (pa_cons pe_non (pa_cons pe_str (pa_cons pe_dnewK (pa_cons pe_int (pa_cons pe_bl (pa_cons pe_str pa_nil))))))) pa_nil))))
      (pss_one (ps_if (pt_cmpR op_ne (pe_lamcallG (t := teO1 K ks CF CV CB 12) (T := tab1 Pt) (Ng := nHea) (k := 7) (c := c) (P := Pt) rfl mh Fh.kp lkh hch bh scHea rfl (Or.inl rfl) HG TB rfl (List.mem_singleton.mpr rfl) huT hgu hr9 (lamS_by (sc := defScope sLaw10) (by decide +kernel)) rfl (fun _ _ _ _ _ => rfl)
          (fun B st s1 H1 E f' c' hgB hr' => pe_cmethK (pe_glob rfl T.mB (v := .ref CB) rfl) cr cO T.of0 hr' (passes_call (takes_of rfl rfl rfl rfl) fun _ _ _ _ h => h) (pa_cons (pv 4) (pa_cons (pv 12) pa_nil)) pk_nil)) pe_str (nomark _)) (pss_one (ps_ret pe_bl)) pss_nil)))))))))))))
    (pss_cut (ps_set (i := 13) scL10.nd rfl (Or.inr rfl) (StK.pe_makeS T.mkF T.frG hr5 rfl T.mF (passNo rfl rfl) (pa_cons (pe_make MD GD1 hr5 rfl mD1 bD1 .nil (passNo rfl rfl) (pa_cons pe_str pa_nil)) (pa_cons (pe_make MD GD1 hr5 rfl mD1 bD1 .nil (passNo rfl rfl) (pa_cons pe_str pa_nil)) pa_nil)) (pk_cons pe_bl (pk_cons pe_bl pk_nil))))
    (pss_cons (ps_set (i := 14) scL10.nd rfl (Or.inl rfl) (pe_lst (pa_cons (pe_lamcallG (t := teMB ks CF CV CB taF1) (T := tab1 Pt) (Ng := nHea) (k := 7) (c := c) (P := Pt) rfl mh Fh.kp lkh hch bh scHea rfl (Or.inl rfl) HG TB rfl (List.mem_singleton.mpr rfl) huT hgu hr9 (lamS_by (sc := defScope sLaw10) (by decide +kernel)) rfl (fun _ _ _ _ _ => rfl)
          (fun B st s1 H1 E f' c' hgB hr' => StX.pe_makeR T.mkB T.boS (hr'.mono (show 6 ≤ 7 by decide)) rfl T.mB (passes_call (takes_of rfl rfl rfl rfl) fun _ _ _ _ h => h) (pa_cons (pv 13) (pa_cons (pe_lstN (pa_cons pe_str (pa_cons pe_str pa_nil))) (pa_cons (pe_lstN (pa_cons pe_str pa_nil)) pa_nil))))) pa_nil)))
    (pss_cons (ps_expr (pe_bm PySem.F.plainAttrs_list PySem.F.slot_list_append PySem.F.type_list_append mt_append (pv 14) (pa_cons (pe_lamcallG (t := teMB ks CF CV CB taF2) (T := tab1 Pt) (Ng := nHea) (k := 7) (c := c) (P := Pt) rfl mh Fh.kp lkh hch bh scHea rfl (Or.inl rfl) HG TB rfl (List.mem_singleton.mpr rfl) huT hgu hr9 (lamS_by (sc := defScope sLaw10) (by decide +kernel)) rfl (fun _ _ _ _ _ => rfl)
          (fun B st s1 H1 E f' c' hgB hr' => StX.pe_makeR T.mkB T.boS (hr'.mono (show 6 ≤ 7 by decide)) rfl T.mB (passes_call (takes_of rfl rfl rfl rfl) fun _ _ _ _ h => h) (pa_cons (pv 13) (pa_cons (pe_lstN (pa_cons pe_str (pa_cons pe_str pa_nil))) (pa_cons (pe_lstN (pa_cons pe_str (pa_cons pe_str pa_nil))) pa_nil))))) pa_nil)))
    (pss_cons (ps_expr (pe_bm PySem.F.plainAttrs_list PySem.F.slot_list_append PySem.F.type_list_append mt_append (pv 14) (pa_cons (pe_lamcallG (t := teMB ks CF CV CB taF3) (T := tab1 Pt) (Ng := nHea) (k := 7) (c := c) (P := Pt) rfl mh Fh.kp lkh hch bh scHea rfl (Or.inl rfl) HG TB rfl (List.mem_singleton.mpr rfl) huT hgu hr9 (lamS_by (sc := defScope sLaw10) (by decide +kernel)) rfl (fun _ _ _ _ _ => rfl)
          (fun B st s1 H1 E f' c' hgB hr' => StX.pe_makeR T.mkB T.boS (hr'.mono (show 6 ≤ 7 by decide)) rfl T.mB (passes_call (takes_of rfl rfl rfl rfl) fun _ _ _ _ h => h) (pa_cons (pv 13) (pa_cons (pe_lstN (pa_cons pe_str (pa_cons pe_str (pa_cons pe_str pa_nil)))) pa_nil)))) pa_nil)))
    (pss_one (ps_ret (pe_cmpR (op_eqD hr.units) (pv 14) (pe_lst (pa_cons pe_str (pa_cons pe_str (pa_cons pe_str pa_nil)))) (nomark _))))))))), ?_⟩
  refine ⟨_, rfl, sc, ns, rfl, hS, hlen, fun p l cs H1 hP s1 => ?_⟩
  have T1 := hT.ext s1
  refine ⟨fun σ H' => (∃ o2 o3 o4 o5 o6 o8 o9 o10 o11 o12, σ = stL10 sc p o2 o3 o4 o5 o6 o8 o9 o10 o11 o12 none none) ∧ Tabs (tab1 Pt) H', ?_, ?_⟩
  · refine ⟨10, rfl, by decide, by decide, for_range (n := 10) (fun i σ H' => (∃ o2 o3 o4 o5 o6 o8 o9 o10 o11 o12, σ = stL10 sc p o2 o3 o4 o5 o6 o8 o9 o10 o11 o12 none none) ∧ Pen H' p l cs (400 * i) ∧ Tabs (tab1 Pt) H') ⟨⟨none, none, none, none, none, none, none, none, none, none, rfl⟩, hP, T1⟩ ?_ (fun σ H' h => ⟨h.1, h.2.2⟩)⟩
    rintro i σ H2 hi ⟨⟨o2, o3, o4, o5, o6, o8, o9, o10, o11, o12, rfl⟩, P2, T2⟩
    obtain ⟨xs2, hp2⟩ := P2.at'
    refine ⟨_, rfl, p, l, cs, 400 * i, 6, rfl, P2, by decide, by omega, fun b d H3 ok hl6 hb2 hB3 P3 b23 => ?_⟩
    have T3 := tabs_but T2 hp2 b23
    have P3 := P3.mono (show _ ≤ 400 * i + 100 by omega)
    -- frame, blocks
    refine ⟨fun σ H' => ∃ (m a : Addr) (fr : FrD) (rs : List PyData) (o2 : Option V), σ = stL10 sc p o2 (some (.ref b)) (some (.ref m)) (some (.ref a)) o6 o8 o9 o10 o11 o12 none none ∧ I10 ks CF (tab1 Pt) H' p l cs b m a d fr rs ∧ (membZ fr).Perm (memB d) ∧ SzR 18 18 rs ∧ Pen H' p l cs (400 * i + 150), ?_, ?_⟩
    · refine ⟨_, rfl, b, d, p, rfl, hB3, ok, fun m ys H4 hF4 hk hm3 s34 => ⟨_, rfl, _, rfl, p, l, cs, _, b, d, rfl, P3.same s34, hB3.same s34, ok, by omega, fun q1 Bl H5 hL5 hm1 hnb1 hq10 hf1 P5 b45 => ⟨by show 2 ≤ sizeLine; decide, fun tp htp => ⟨tp, _, rfl, SqT.of upd_same, rfl, _, _, rfl, _, _, rfl, rfl, ?_⟩⟩⟩⟩
      have P4 := P3.same s34
      obtain ⟨xs4, hp4⟩ := P4.at'
      have s56 := same_at (o := .tup [V.ref m, .ref q1]) htp
      have I5 : I10 ks CF (tab1 Pt) H5 p l cs b m q1 d ⟨ys, d.t, d.g, d.r⟩ (Bl.map rowD) := ⟨(hB3.same s34).but P4 b45, hF4.keepP P4 b45, blL_at hL5 (nep P4 hq10), tabs_but (T3.ext s34) hp4 b45⟩
      exact ⟨m, q1, _, _, _, rfl, I5.same s56, kinds_mem hk (.refl _) rfl rfl, blL_sz ok hL5 hm1, (P5.same s56).mono (by omega)⟩
    rintro σ H4 ⟨m, a0, fr, rs0, o2, rfl, I4, hmem, hSz0, P4⟩
    clear P3 T3 hB3 b23 P2 T2 hp2
    have hmn : (membZ fr).Nodup := hmem.nodup_iff.mpr (memB_nd ok)
    -- bends
    refine ⟨fun σ H' => ∃ (a : Addr) (rs : List PyData) (o6 : Option V), σ = stL10 sc p o2 (some (.ref b)) (some (.ref m)) (some (.ref a)) o6 o8 o9 o10 o11 o12 none none ∧ I10 ks CF (tab1 Pt) H' p l cs b m a d fr rs ∧ SzR 21 21 rs ∧ Pen H' p l cs (400 * i + 200), ?_, ?_⟩
    · refine ⟨_, rfl, p, l, cs, _, 4, rfl, P4, by decide, by decide, by omega, fun dd iz g3 H5 d0 d4 i0 in1 hp5 b5 => ?_⟩
      have P5 := P4.next i0 in1 hp5 b5
      refine ⟨_, rfl, by omega, by omega, for_range (n := dd.toNat) (fun j σ H' => ∃ (a : Addr) (rs : List PyData) (o6 : Option V), σ = stL10 sc p o2 (some (.ref b)) (some (.ref m)) (some (.ref a)) o6 o8 o9 o10 o11 o12 none none ∧ I10 ks CF (tab1 Pt) H' p l cs b m a d fr rs ∧ SzR (18 + j) (18 + j) rs ∧ Pen H' p l cs (400 * i + 151 + 6 * j)) ⟨a0, rs0, _, rfl, I4.but P4 b5, hSz0, P5⟩ ?_ ?_⟩
      · rintro j σ H6 hj ⟨a, rs, o6', rfl, I6, hSz, P6⟩
        have hj3 : j < 3 := by omega
        obtain ⟨xs, ha, nap, hx, _⟩ := id I6.ro
        have hxl := hx.len
        have hsl := hSz.len
        refine ⟨_, rfl, _, rfl, _, rfl, a, rfl, ⟨_, SqL.of ha⟩, fun D hD hnD => ?_⟩
        refine lc_filt (v := 7) (fun r => (isSeq r).isSome) ha hx hD (by omega) (fun x => rfl) (fun x => rfl) ?_ fun H7 ys s7 hD7 hys => ?_
        · intro x r H' hxr hrm s' Rb kR
          obtain ⟨ty, tyx, k1, k2, k3⟩ := dq_ty (((hxr.same off_in).same s').dq (K := K))
          refine ⟨_, rfl, by show 2 ≤ sizeLine; decide, fun p' hp' => ?_⟩
          have sp := same_at (o := .tup [V.ty "list", .ty "tuple"]) hp'
          refine ⟨x, p', [.ty "list", .ty "tuple"], .type ty, [.type "list", .type "tuple"], _, rfl, upd_same, .cons (.ty _) (.cons (.ty _) .nil), tyx_same tyx sp, kit_two k2 k3, _, rfl, ?_⟩
          rw [← isSeq_two]
          exact kR _ sp
        · have P7 := P6.same s7
          have I7 := I6.same s7
          refine ⟨p, l, cs, _, b, D, d, 18 + j, 18 + j, _, rfl, P7, I7.ba, ok, ⟨ys, hD7, nep P6 hD, hys.same (off_up s7), .inl hnD⟩, ⟨Nat.le_trans (List.length_filter_le _ _) hsl, fun r hr' => hSz.row r (List.mem_filter.mp hr').1⟩, fun r hr' => (List.mem_filter.mp hr').2, by omega, by omega, by omega, by omega, fun a' rs' H' R' S' P' b' => ?_⟩
          have I8 := I7.but P7 b'
          exact ⟨a', rs', _, rfl, ⟨I8.ba, I8.fr_, R', I8.tb⟩, S', P'⟩
      · rintro σ H6 ⟨a, rs, o6', rfl, I6, hSz, P6⟩
        exact ⟨a, rs, _, rfl, I6, ⟨Nat.le_trans hSz.len (by omega), fun r hr' => (hSz.row r hr').mono (by omega)⟩, P6.mono (by omega)⟩
    rintro σ H5 ⟨a, rs, o6, rfl, I5, hSz, P5⟩
    clear P4 I4 hSz0
    have few := hSz.few (by decide) (by decide)
    have sd := hSz.sd (by decide) (by decide)
    obtain ⟨xs, ha5, hx5⟩ := rowsAt_full I5.ro
    -- kept, due
    refine ⟨_, rfl, shV_rd (I5.ro.sh sd) ⟨_, rfl, _, rfl, b, a, p, d, xs, rs, rfl, I5.ba, ok, ha5, hx5, few, fun H6 s56 => ⟨_, _, rfl, ?_⟩⟩⟩
    have I6 := I5.same s56
    have P6 := P5.same s56
    have ha6 := s56 _ _ ha5
    have hx6 := hx5.same s56
    have sh6 := I6.ro.sh (K := K) sd
    clear I5 P5 ha5 hx5 s56
    obtain ⟨z, ez⟩ : ∃ z, z = PyData.shown (.list rs) := ⟨_, rfl⟩
    obtain ⟨v, ev⟩ : ∃ v, v = due10 (memB d) rs := ⟨_, rfl⟩
    have hv4 := due_four (memB d) rs
    have dvz : due10 (membZ fr) rs = v := by rw [ev]; exact due10_mem hmem rs
    obtain ⟨dd, hdd, hsh, heqv, hsc⟩ := due_dp (K := K) (v := v) (by rw [ev]; exact hv4)
    rw [← ez] at sh6
    show tCut _ _ _ _ _
    rw [← ez, ← ev]
    have rowB : ∀ {H' : Hp}, ExtN H6 H' → RowB K H' (.ref a) (some rs) := fun x => .seq (.inl (x _ _ ha6 (fun ps z => by cases z))) (dha_ext hx6 x) few
    -- told
    refine ⟨fun σ H' => ∃ ll, σ = stL10 sc p o2 (some (.ref b)) (some (.ref m)) (some (.ref a)) o6 (some (.str z)) (some v) (some (.ref ll)) o11 o12 none none ∧ H' ll = some (.lst [v]) ∧ ExtN H6 H' ∧ Tabs (tab1 Pt) H' ∧ ∃ H0, ExtN H6 H0 ∧ H0 ll = none, ?_, ?_⟩
    · refine hr_rd (v := v) I6.tb (fun H7 x7 T7 Qn E ke kn => ?_) (fun H7 x7 T7 => ⟨by show 1 ≤ sizeLine; decide, fun ll hll => ⟨ll, rfl, upd_same, x7.trans (.of (same_at hll)), T7.ext (same_at hll), H7, x7, hll⟩⟩)
      exact ⟨rfl, _, rfl, _, rfl, rfl, rfl, m, .ref a, fr, some rs, rfl, I6.fr_.ext x7, hmn, rowB x7, fun z' e => ke z' (by rw [← dvz]; exact e), fun e u H' _ _ s => kn (by rw [← dvz]; exact e) _ _ s⟩
    rintro σ H7 ⟨ll, rfl, hll, x67, T7, H0, x60, hll0⟩
    -- by words
    refine ⟨fun σ H' => σ = stL10 sc p o2 (some (.ref b)) (some (.ref m)) (some (.ref a)) o6 (some (.str z)) (some v) (some (.ref ll)) o11 o12 none none ∧ H' ll = some (.lst [v, v]) ∧ ExtN H6 H' ∧ Tabs (tab1 Pt) H', ?_, ?_⟩
    · refine ⟨_, rfl, .inl ⟨rfl, _, SqL.of hll⟩, hr_rd (v := v) T7 (fun H8 x8 T8 Qn E ke kn => ?_) (fun H8 x8 T8 => ?_)⟩
      · have x68 := x67.trans x8
        refine ⟨rfl, _, rfl, a, xs, rfl, .inl ⟨SqL.of (x68 _ _ ha6 (fun ps z => by cases z)), fun t ht => ⟨_, rfl, rfl, rfl, m, .ref t, fr, some rs, rfl, ?_⟩⟩⟩
        have st := same_at (o := .tup xs) ht
        exact ⟨(I6.fr_.ext x68).same st, hmn, .seq (.inr upd_same) ((dha_ext hx6 x68).same st) few, fun z' e dd' H' er => ke z' (by rw [← dvz]; exact e) dd' H' (er.of st), fun e u H' _ _ s => kn (by rw [← dvz]; exact e) _ _ (st.trans s)⟩
      · have hl8 := x8 _ _ hll (fun ps z => by cases z)
        refine ⟨ll, _, v, rfl, rfl, hl8, by show 1 < sizeLine; decide, rfl, upd_same, extN_new (x67.trans x8) x60 hll0, tabs_but T8 hl8 (.upd _ _ _)⟩
    rintro σ H8 ⟨rfl, hl8, x68, T8⟩
    clear hll x67 T7 hll0 x60
    -- as they must be
    refine ⟨fun σ H' => σ = stL10 sc p o2 (some (.ref b)) (some (.ref m)) (some (.ref a)) o6 (some (.str z)) (some v) (some (.ref ll)) o11 o12 none none ∧ ExtN H6 H' ∧ Tabs (tab1 Pt) H', ?_, ?_⟩
    · refine ⟨_, rfl, _, rfl, by show 1 ≤ sizeLine; decide, fun l1 hl1 => ⟨l1, 2, _, rfl, rfl, upd_same, by decide, by decide, by show 2 ≤ sizeLine; decide, fun l3 hl3 => ?_⟩⟩
      have sA := same_at (o := .lst [v]) hl1
      have sB := same_at (o := .lst [v, v]) hl3
      have x69 := x68.trans (.of (sA.trans sB))
      refine ⟨.list [dd, dd], .list [dd, dd], .lst (SqL.of (sB _ _ (sA _ _ hl8))) (.cons (hdd _) (.cons (hdd _) .nil)), .lst (SqL.of upd_same) (.cons (hdd _) (.cons (hdd _) .nil)), hsh, hsh, _, rfl, ?_⟩
      rw [heqv]
      refine iteF ⟨_, rfl, shV_rd (sh6.ext x69) ⟨_, rfl, rfl, _, rfl, ?_⟩⟩
      rw [decide_eq_true rfl]
      exact iteF ⟨rfl, x69, T8.ext (sA.trans sB)⟩
    rintro σ H9 ⟨rfl, x69, T9⟩
    clear hl8 x68 T8
    -- a pair
    refine ⟨fun σ H' => ∃ (q : Addr) (y0 y1 : V) (rp : List PyData), σ = stL10 sc p o2 (some (.ref b)) (some (.ref m)) (some (.ref a)) o6 (some (.str z)) (some v) (some (.ref ll)) (some (.ref q)) o12 none none ∧ H' q = some (.lst [y0, y1]) ∧ DhAll H' [y0, y1] rp ∧ Few rp ∧ ExtN H6 H' ∧ Tabs (tab1 Pt) H', ?_, ?_⟩
    · have ha9 := x69 _ _ ha6 (fun ps z => by cases z)
      have hxl := hx6.len
      have hsl := hSz.len
      refine ⟨_, rfl, by show 0 ≤ sizeLine; decide, fun e1 he1 hn1 => ⟨by show 2 ≤ sizeLine; decide, fun mm hmm => ?_⟩⟩
      have sA := same_at (o := .lst []) he1
      have sB := same_at (o := .lst [V.ref e1, .non]) hmm
      refine ⟨a, mm, xs, _, rfl, rfl, sB _ _ (sA _ _ ha9), upd_same, Nat.le_trans (show _ ≤ 100 by simp only [List.length_cons, List.length_nil]; omega) (by decide), fun q1 hq1 hnq1 => ?_⟩
      have sC := same_at (o := .lst (xs ++ [V.ref e1, .non])) hq1
      refine ⟨_, rfl, q1, _, rfl, SqL.of upd_same, fun q2 hq2 => ?_⟩
      have ec : cutV (xs ++ [V.ref e1, .non]) none (some 2) = (xs ++ [V.ref e1, .non]).take 2 := cut_hiV _ 2
      have sD := same_at (o := .lst (cutV (xs ++ [V.ref e1, .non]) none (some 2))) hq2
      have sAD := sA.trans (sB.trans (sC.trans sD))
      obtain ⟨y0, y1, ey⟩ := two_of (xs := (xs ++ [V.ref e1, .non]).take 2) (by rw [List.length_take, List.length_append]; simp only [List.length_cons, List.length_nil]; omega)
      refine ⟨q2, y0, y1, (rs ++ ([.list [], .none] : List PyData)).take 2, rfl, by rw [upd_same, ec, ey], ?_, ?_, x69.trans (.of sAD), T9.ext sAD⟩
      · rw [← ey]
        exact (((dha_ext hx6 x69).same sAD).append (.cons (.lst hn1 (sD _ _ (sC _ _ (sB _ _ upd_same))) .nil) (.cons .non .nil))).take 2
      have sz : SzR 2 21 ((rs ++ ([.list [], .none] : List PyData)).take 2) := by
        refine ⟨by rw [List.length_take]; omega, fun r hr' => ?_⟩
        rcases List.mem_append.mp (List.mem_of_mem_take hr') with h | h
        · exact hSz.row r h
        · simp only [List.mem_cons, List.not_mem_nil, or_false] at h
          rcases h with rfl | rfl
          · exact .inl ⟨[], rfl, Nat.zero_le _, fun e he => by cases he⟩
          · exact .inr ⟨by decide +kernel, rfl⟩
      exact sz.few (by decide) (by decide)
    rintro σ H10 ⟨q, y0, y1, rp, rfl, hq10, hrp, fewp, x610, T10⟩
    clear x69 T9
    refine ⟨fun σ H' => σ = stL10 sc p o2 (some (.ref b)) (some (.ref m)) (some (.ref a)) o6 (some (.str z)) (some v) (some (.ref ll)) (some (.ref q)) o12 none none ∧ ExtN H6 H' ∧ Tabs (tab1 Pt) H', ?_, ?_⟩
    · have dvp : due10 (membZ fr) rp = due10 (memB d) rp := due10_mem hmem rp
      obtain ⟨_, _, _, _, hscp⟩ := due_dp (K := K) (due_four (memB d) rp)
      refine hr_rd (v := due10 (memB d) rp) T10 (fun H11 x11 T11 Qn E ke kn => ?_) (fun H11 x11 T11 => ?_)
      · have hq11 := x11 _ _ hq10 (fun ps z => by cases z)
        refine ⟨_, rfl, _, rfl, q, [y0, y1], 0, y0, rfl, rfl, SqL.of hq11, atI_nat (j := 0) rfl, _, rfl, q, [y0, y1], 1, y1, rfl, rfl, SqL.of hq11, atI_nat (j := 1) rfl, fun o dx ho hdx hne => ?_⟩
        exact mk_boA (I6.fr_.ext (x610.trans x11)) (dha_ext hrp x11) fewp hmn ho hdx hne (fun z' e => ke z' (by rw [← dvp]; exact e)) (fun e H' _ s => ⟨rfl, kn (by rw [← dvp]; exact e) _ _ s⟩)
      · have x611 := x610.trans x11
        refine ⟨_, rfl, _, rfl, b, q, p, d, [y0, y1], rp, rfl, I6.ba.ext x611, ok, x11 _ _ hq10 (fun ps z => by cases z), dha_ext hrp x11, fewp, fun H12 s12 => ⟨hscp, _, rfl, ?_⟩⟩
        rw [decide_eq_true rfl]
        exact iteF ⟨rfl, x611.trans (.of s12), T11.ext s12⟩
    rintro σ H11 ⟨rfl, x611, T11⟩
    clear x610 T10 hq10 hrp
    have I11 := I6.ext x611 T11
    have P11 := P6.ext x611
    -- odd
    refine ⟨fun σ H' => ∃ ov, σ = stL10 sc p o2 (some (.ref b)) (some (.ref m)) (some (.ref a)) o6 (some (.str z)) (some v) (some (.ref ll)) (some (.ref q)) (some ov) none none ∧ (∃ t : String, TyX K H' ov (.type t) ∧ kitB t "list" = some false ∧ kitB t "tuple" = some false) ∧ I10 ks CF (tab1 Pt) H' p l cs b m a d fr rs ∧ Pen H' p l cs (400 * i + 201), ?_, ?_⟩
    · refine ⟨_, rfl, fun d1 hd1 => ⟨by show 6 ≤ sizeLine; decide, fun u hu => ?_⟩⟩
      have sA := same_at (o := .dK []) hd1
      have sB := same_at (o := .lst (oddO d1)) hu
      have sAB := sA.trans sB
      have P12 := P11.same sAB
      have nd := nep P11 hd1
      refine ⟨p, l, u, cs, _, oddO d1, rfl, P12, upd_same, nep (P11.same sA) hu, by show 0 < 6; decide, by show 6 < 1000; decide, by omega, fun j x H13 hj P13 b13 => ?_⟩
      exact ⟨x, rfl, oddO_row (List.mem_of_getElem? hj) (b13 _ _ nd (sB _ _ upd_same)), (I11.same sAB).but P12 b13, P13⟩
    rintro σ H12 ⟨ov, rfl, ⟨t, ty, kl, kt⟩, I12, P12⟩
    refine hr_rd (v := .str "blocks") I12.tb (fun H13 x13 T13 Qn E ke kn => ?_) (fun H13 x13 T13 => ?_)
    · exact ⟨rfl, _, rfl, _, rfl, rfl, rfl, m, ov, fr, none, rfl, I12.fr_.ext x13, hmn, .odd (tyx_ext ty x13) kl kt, fun z' e => ke z' e, fun e => by cases e⟩
    · refine ⟨rfl, _, rfl, ?_⟩
      rw [decide_eq_true rfl]
      exact iteF ⟨⟨_, _, _, _, _, _, _, _, _, _, rfl⟩, (P12.ext x13).mono (by omega), T13⟩
  rintro σ H2 ⟨⟨o2, o3, o4, o5, o6, o8, o9, o10, o11, o12, rfl⟩, T2⟩
  refine ⟨fun σ H' => ∃ (mp : Addr) (fdp : FrD), σ = stL10 sc p o2 o3 o4 o5 o6 o8 o9 o10 o11 o12 (some (.ref mp)) none ∧ FrIs ks CF H' mp fdp ∧ (membZ fdp).Perm ["a", "b", "ground", "power"] ∧ Tabs (tab1 Pt) H', ?_, ?_⟩
  · refine mkS_i ?_
    refine mk_rd (by exact fun _ q => q) (by decide +kernel) (by decide +kernel) fun a1 H3 ha1 la1 s23 => ?_
    refine mk_rd (by exact fun _ q => q) (by decide +kernel) (by decide +kernel) fun a2 H4 ha2 la2 s34 => ?_
    refine ⟨rfl, fr_rd (rs := [⟨a1, ks.drv, "a"⟩, ⟨a2, ks.drv, "b"⟩]) (t := 1) (g := true) (r := true) (fun v => rfl) (fun r hr => ?_) (by show (["a", "b"] : List Str).Nodup; decide +kernel) (by show 2 ≤ 40; decide) (by decide) (by decide) fun mp yp H6 hmp hpp hFp s46 => ?_⟩
    · rcases List.mem_cons.mp hr with rfl | hr
      · exact ⟨.inl rfl, la1.same s34⟩
      · rw [List.mem_singleton.mp hr]
        exact ⟨.inl rfl, la2⟩
    refine ⟨mp, ⟨yp, 1, true, true⟩, rfl, hFp, ?_, T2.ext (s23.trans (s34.trans s46))⟩
    have h1 : (names yp).Perm ["a", "b"] := hpp.map fun q : LegR => q.z
    exact h1.append_right (t₁ := [("ground" : Str), "power"])
  rintro σ H3 ⟨mp, fdp, rfl, hFp, mz, T3⟩
  have mnd : (membZ fdp).Nodup := mz.nodup_iff.mpr (by decide +kernel)
  have dv : ∀ {rs : List PyData} {v : V}, due10 ["a", "b", "ground", "power"] rs = v → due10 (membZ fdp) rs = v := fun {rs v} e => by rw [due10_mem mz]; exact e
  have e1 : due10 (membZ fdp) [.list [.str "a", .str "a"], .list [.str "x"]] = .str "name" := dv (by decide +kernel)
  have e2 : due10 (membZ fdp) [.list [.str "ground", .str "power"], .list [.str "a", .str "a"]] = .str "twice" := dv (by decide +kernel)
  have e3 : due10 (membZ fdp) [.list [.str "ground", .str "a", .str "power"]] = .str "rails" := dv (by decide +kernel)
  refine hr_rd (v := .str "name") T3 (fun H4 x4 T4 Qn E ke kn => ?_) (fun H4 x4 T4 => ⟨by show 1 ≤ sizeLine; decide, fun ll hll => ?_⟩)
  · refine ⟨_, rfl, by show 2 ≤ sizeLine; decide, fun l1 hl1 hn1 => ⟨by show 1 ≤ sizeLine; decide, fun l2 hl2 hn2 => fun o dx ho hdx hne => ?_⟩⟩
    have sA := same_at (o := .lst [V.str "a", .str "a"]) hl1
    have sB := same_at (o := .lst [V.str "x"]) hl2
    have sAB := sA.trans sB
    refine mk_boA ((hFp.ext x4).same sAB) (.cons (.lst hn1 (sB _ _ upd_same) (.cons (.str _) (.cons (.str _) .nil))) (.cons (.lst hn2 upd_same (.cons (.str _) .nil)) .nil)) ⟨by decide, by decide +kernel⟩ mnd ho hdx hne (fun z' e dd H' er => ke z' (by rw [← e1]; exact e) dd H' (er.of sAB)) (fun e => by rw [e1] at e; cases e)
  have sl := same_at (o := .lst [V.str "name"]) hll
  have hl5 : upd H4 ll (.lst [V.str "name"]) ll = some (.lst [V.str "name"]) := upd_same
  have x5 := x4.trans (.of sl)
  have T5 := T4.ext sl
  obtain ⟨H5, eH5⟩ : ∃ H5, H5 = upd H4 ll (.lst [V.str "name"]) := ⟨_, rfl⟩
  rw [← eH5] at hl5 x5 T5 ⊢
  refine ⟨_, rfl, .inl ⟨rfl, _, SqL.of hl5⟩, hr_rd (v := .str "twice") T5 (fun H6 x6 T6 Qn E ke kn => ?_) (fun H6 x6 T6 => ?_)⟩
  · refine ⟨_, rfl, by show 2 ≤ sizeLine; decide, fun l1 hl1 hn1 => ⟨by show 2 ≤ sizeLine; decide, fun l2 hl2 hn2 => fun o dx ho hdx hne => ?_⟩⟩
    have sA := same_at (o := .lst [V.str "ground", .str "power"]) hl1
    have sB := same_at (o := .lst [V.str "a", .str "a"]) hl2
    have sAB := sA.trans sB
    refine mk_boA ((hFp.ext (x5.trans x6)).same sAB) (.cons (.lst hn1 (sB _ _ upd_same) (.cons (.str _) (.cons (.str _) .nil))) (.cons (.lst hn2 upd_same (.cons (.str _) (.cons (.str _) .nil))) .nil)) ⟨by decide, by decide +kernel⟩ mnd ho hdx hne (fun z' e dd H' er => ke z' (by rw [← e2]; exact e) dd H' (er.of sAB)) (fun e => by rw [e2] at e; cases e)
  have hl6 := x6 _ _ hl5 (fun ps z => by cases z)
  refine ⟨ll, _, .str "twice", rfl, rfl, hl6, by show 1 < sizeLine; decide, ?_⟩
  have hl7 : upd H6 ll (.lst ([V.str "name"] ++ [.str "twice"])) ll = some (.lst [V.str "name", .str "twice"]) := upd_same
  have x7 := extN_new (x5.trans x6) x4 hll (o := .lst ([V.str "name"] ++ [.str "twice"]))
  have T7 := tabs_but T6 hl6 (.upd _ _ (.lst ([V.str "name"] ++ [.str "twice"])))
  obtain ⟨H7, eH7⟩ : ∃ H7, H7 = upd H6 ll (.lst ([V.str "name"] ++ [.str "twice"])) := ⟨_, rfl⟩
  rw [← eH7] at hl7 x7 T7 ⊢
  refine ⟨_, rfl, .inl ⟨rfl, _, SqL.of hl7⟩, hr_rd (v := .str "rails") T7 (fun H8 x8 T8 Qn E ke kn => ?_) (fun H8 x8 T8 => ?_)⟩
  · refine ⟨_, rfl, by show 3 ≤ sizeLine; decide, fun l1 hl1 hn1 => fun o dx ho hdx hne => ?_⟩
    have sA := same_at (o := .lst [V.str "ground", .str "a", .str "power"]) hl1
    refine mk_boA ((hFp.ext (x7.trans x8)).same sA) (.cons (.lst hn1 upd_same (.cons (.str _) (.cons (.str _) (.cons (.str _) .nil)))) .nil) ⟨by decide, by decide +kernel⟩ mnd ho hdx hne (fun z' e dd H' er => ke z' (by rw [← e3]; exact e) dd H' (er.of sA)) (fun e => by rw [e3] at e; cases e)
  have hl8 := x8 _ _ hl7 (fun ps z => by cases z)
  refine ⟨ll, _, .str "rails", rfl, rfl, hl8, by show 2 < sizeLine; decide, ?_⟩
  refine ⟨_, rfl, by show 3 ≤ sizeLine; decide, fun l9 hl9 => ?_⟩
  have s9 := same_at (o := .lst [V.str "name", .str "twice", .str "rails"]) hl9
  refine ⟨.list [.str "name", .str "twice", .str "rails"], .list [.str "name", .str "twice", .str "rails"], .lst (SqL.of (s9 _ _ upd_same)) (.cons (.str _) (.cons (.str _) (.cons (.str _) .nil))), .lst (SqL.of upd_same) (.cons (.str _) (.cons (.str _) (.cons (.str _) .nil))), by decide +kernel, by decide +kernel, ?_⟩
  rw [show PyData.eqv (.list [.str "name", .str "twice", .str "rails"]) (.list [.str "name", .str "twice", .str "rails"]) = true by decide +kernel]
  exact k _
end
end Sj
namespace Sj
open PySem L2 Sup StK Own Shw Exg Grd KepE LamX
open NdefX (NF NScope ncx envF startF nscope_by)
/-! k10: InvalidBoard; Board.of by its places and by words -/
abbrev sIvB : Stmt := inClass (top 4) 0
section
variable {P : Program} {w : World} {K : PySem.W.Frag} {mg : Str → Option Value} {base : Heap}
theorem ok_ivb {f c cc C : Addr} {fd : FuncData} (F : FunS P K "__init__" "InvalidBoard.__init__" sIvB f fd c cc C) (T : ExT P K mg C "reason") : FnOk P w K mg base CX0 1 f fd ["self", "reason"] (spInv K C) := by
  refine fn_super F scInv (fun vs H Q E h => ?_) (fun A outer s H vs Q E hr h s1 I => ?_)
  · obtain ⟨a, z, rfl, _⟩ := h
    rfl
  · obtain ⟨a, z, rfl, hz, ha, k⟩ := h
    refine super_exc (me := "self") (x := a) (C := C) (atS_of F rfl rfl rfl rfl ⟨_, rfl, rfl⟩) T.sup T.oex rfl T.hm T.hB T.hs
      (pa_cons (pe_joined (.cons pe_str (.cons (pe_fmtR (pv 1)) .nil))) pa_nil) (pss_one (ps_ost (pv 0) (pv 1))) I rfl ha ?_ rfl rfl rfl rfl rfl
    refine ⟨_, rfl, by decide +kernel, _, rfl, .inl ⟨z, rfl, Nat.le_trans hz (by decide), _, rfl, ?_, by show 1 ≤ 1000; decide, ha, ?_⟩⟩
    · have e1 : ((Str.empty ++ ("invalid board: " : Str)) ++ reprText z).length ≤ 15 + (reprText z).length := by
        rw [strLen]
        exact Nat.add_le_add_right (by decide +kernel) _
      exact Nat.le_trans e1 (Nat.le_trans (Nat.add_le_add_left hz 15) (by decide))
    · exact ⟨_, rfl, _, rfl, a, C, rfl, T.oex, T.no, .inl ⟨ha, fun dx hd hne => k dx hd hne⟩⟩
theorem bo_of0A {f CF CI CB : Addr} {fd : FuncData} {ks : Kinds} (F : FunD K "of" "Board.of" (defArgs sBoO) (defBody sBoO) (defScope sBoO) [] [] f fd) (G : FnOk P w K mg base (L2.CX P w) 7 f fd ["cls", "frame", "blocks"] (spBOfA K ks CF CI CB)) :
    FnK P w K mg base (L2.CX P w) 7 f [] (fun vs zs H Q E => vs.length = 3 ∧ spBOfA K ks CF CI CB vs H Q E) := by
  have hb : KBn K fd ["cls", "frame", "blocks"] 3 [] (fun us _ => us) (fun vs _ => vs) := by
    obtain ⟨oc, od, dV, kV, doc, pm, an, cdv, ct, osl, rfl, lk, hcd, hD, hK⟩ := F.ex
    rcases hD with ⟨_, rfl⟩ | ⟨e, _⟩
    case inr => exact absurd rfl e
    exact ⟨fun s us ws X h1 h2 => match us, ws, h1, h2 with
      | [a, b, c], [], _, _ => .of_eq rfl, fun r _ => r⟩
  exact fnK_of G hb
theorem bo_ofKA {f CF CI CB : Addr} {fd : FuncData} {ks : Kinds} (F : FunD K "of" "Board.of" (defArgs sBoO) (defBody sBoO) (defScope sBoO) [] [] f fd) (G : FnOk P w K mg base (L2.CX P w) 7 f fd ["cls", "frame", "blocks"] (spBOfA K ks CF CI CB)) :
    FnK P w K mg base (L2.CX P w) 7 f ["blocks", "frame"] (fun vs zs H Q E => vs.length = 1 ∧ spBOfA K ks CF CI CB (vs ++ zs.reverse) H Q E) := by
  have rev : ∀ {vs : List V} {us : List Value}, Vals vs us → Vals vs.reverse us.reverse := by
    intro vs us r
    induction r with
    | nil => exact .nil
    | cons r t ih =>
      rw [List.reverse_cons, List.reverse_cons]
      exact ih.append (.cons r .nil)
  have hb : KBn K fd ["cls", "frame", "blocks"] 1 ["blocks", "frame"] (fun us ws => us ++ ws.reverse) (fun vs zs => vs ++ zs.reverse) := by
    obtain ⟨oc, od, dV, kV, doc, pm, an, cdv, ct, osl, rfl, lk, hcd, hD, hK⟩ := F.ex
    rcases hD with ⟨_, rfl⟩ | ⟨e, _⟩
    case inr => exact absurd rfl e
    exact ⟨fun s us ws X h1 h2 => match us, ws, h1, h2 with
      | [a], [b, c], _, _ => .of_eq rfl, fun r1 r2 => r1.append (rev r2)⟩
  exact fnK_of G hb
end
end Sj
namespace Sj
open PySem L2 Sup StK Own Shw Exg Grd KepE LamX
open NdefX (NF NScope ncx envF startF nscope_by)
theorem all_mk10 {P : Program} {w : World} {K : PySem.W.Frag} {h : Heap} {mg : Str → Option Value} {fa : Addr} (X : K.In h) (G : h.Ns mainGlobals mg) (hfa : mg "law" = some (.ref fa)) (own : OwnTab K fa h)
    {CI : Addr}
    {CL : Addr}
    {CD : Addr}
    {CS : Addr}
    {CF : Addr}
    {CB : Addr}
    {CV : Addr}
    {CJ : Addr}
    {tL tN : Tok} {aR : Addr} {dR : Option Addr} {itsR : Array Value} {nR : Nat} {slR : Array (Option Value)}
    {mcB : Value}
    {fN : Addr} {odN anN : Option Addr} {slN : Array (Option Value)} {ocN kVN dcN pmN cdN ctN : Value}
    {fIi : Addr} {odIi anIi : Option Addr} {slIi : Array (Option Value)} {ocIi kVIi dcIi pmIi cdIi ctIi : Value}
    {fBt : Addr} {odBt anBt : Option Addr} {slBt : Array (Option Value)} {ocBt kVBt dcBt pmBt cdBt ctBt : Value}
    {fWr : Addr} {odWr anWr : Option Addr} {slWr : Array (Option Value)} {ocWr kVWr dcWr pmWr cdWr ctWr : Value}
    {fLI : Addr} {odLI anLI : Option Addr} {slLI : Array (Option Value)} {ocLI kVLI dcLI pmLI cdLI ctLI : Value}
    {fPn : Addr} {odPn anPn : Option Addr} {slPn : Array (Option Value)} {ocPn kVPn dcPn pmPn cdPn ctPn : Value}
    {fDr : Addr} {odDr anDr : Option Addr} {slDr : Array (Option Value)} {ocDr kVDr dcDr pmDr cdDr ctDr : Value}
    {fPk : Addr} {odPk anPk : Option Addr} {slPk : Array (Option Value)} {ocPk kVPk dcPk pmPk cdPk ctPk : Value}
    {fTg : Addr} {odTg anTg : Option Addr} {slTg : Array (Option Value)} {ocTg kVTg dcTg pmTg cdTg ctTg : Value}
    {fBa : Addr} {odBa anBa : Option Addr} {slBa : Array (Option Value)} {ocBa kVBa dcBa pmBa cdBa ctBa : Value}
    {fFm : Addr} {odFm anFm : Option Addr} {slFm : Array (Option Value)} {ocFm kVFm dcFm pmFm cdFm ctFm : Value}
    {fLg : Addr} {odLg anLg : Option Addr} {slLg : Array (Option Value)} {ocLg kVLg dcLg pmLg cdLg ctLg : Value}
    {fMm : Addr} {odMm anMm : Option Addr} {slMm : Array (Option Value)} {ocMm kVMm dcMm pmMm cdMm ctMm : Value}
    {fOd : Addr} {odOd anOd : Option Addr} {slOd : Array (Option Value)} {ocOd kVOd dcOd pmOd cdOd ctOd : Value}
    {fIm : Addr} {odIm anIm : Option Addr} {slIm : Array (Option Value)} {ocIm kVIm dcIm pmIm cdIm ctIm : Value}
    {fWb : Addr} {odWb anWb : Option Addr} {slWb : Array (Option Value)} {ocWb kVWb dcWb pmWb cdWb ctWb : Value}
    {fPa : Addr} {odPa anPa : Option Addr} {slPa : Array (Option Value)} {ocPa kVPa dcPa pmPa cdPa ctPa : Value}
    {fBe : Addr} {odBe anBe : Option Addr} {slBe : Array (Option Value)} {ocBe kVBe dcBe pmBe cdBe ctBe : Value}
    {fDu : Addr} {odDu anDu : Option Addr} {slDu : Array (Option Value)} {ocDu kVDu dcDu pmDu cdDu ctDu : Value}
    {fHe : Addr} {odHe anHe : Option Addr} {slHe : Array (Option Value)} {ocHe kVHe dcHe pmHe cdHe ctHe : Value}
    {fgN : Addr} {odgN angN : Option Addr} {slgN : Array (Option Value)} {ocgN kVgN dcgN pmgN cdgN ctgN : Value}
    {pgN : Addr} {rsgN : List Value}
    {fgR : Addr} {odgR angR : Option Addr} {slgR : Array (Option Value)} {ocgR kVgR dcgR pmgR cdgR ctgR : Value}
    {pgR : Addr} {rsgR : List Value}
    {fgM : Addr} {odgM angM : Option Addr} {slgM : Array (Option Value)} {ocgM kVgM dcgM pmgM cdgM ctgM : Value}
    {pgM : Addr} {rsgM : List Value}
    {fmC : Addr} {odmC anmC : Option Addr} {slmC : Array (Option Value)} {ocmC kVmC dcmC pmmC cdmC ctmC : Value}
    {fDvD : Addr} {odDvD anDvD : Option Addr} {slDvD : Array (Option Value)} {ocDvD kVDvD dcDvD pmDvD cdDvD ctDvD : Value}
    {pDvD : Addr} {rsDvD : List Value}
    {fDvS : Addr} {odDvS anDvS : Option Addr} {slDvS : Array (Option Value)} {ocDvS kVDvS dcDvS pmDvS cdDvS ctDvS : Value}
    {pDvS : Addr} {rsDvS : List Value}
    {fbI : Addr} {odbI anbI : Option Addr} {slbI : Array (Option Value)} {ocbI kVbI dcbI pmbI cdbI ctbI : Value}
    {fbO : Addr} {odbO anbO : Option Addr} {slbO : Array (Option Value)} {ocbO kVbO dcbO pmbO cdbO ctbO : Value}
    {pbO : Addr} {rsbO : List Value}
    {fFI DFI : Addr} {odFI anFI : Option Addr} {slFI : Array (Option Value)} {ocFI dcFI pmFI cdFI ctFI x1FI x2FI x3FI : Value}
    {fO DO : Addr} {odO anO : Option Addr} {slO : Array (Option Value)} {ocO dcO pmO cdO ctO x1O x2O x3O : Value}
    {pO : Addr} {rsO : List Value} {mcF uM : Value}
    {fIE xIE yIE : Addr} {odIE anIE : Option Addr} {slIE : Array (Option Value)} {ocIE kVIE dcIE pmIE ctIE : Value}
    {u1IE u2IE : Value} {v1IE v2IE : Option Addr} {vsIE : Array Value} {w1IE w2IE : Array (Option Value)} {flIE : Str} {tfIE : Tok}
    {fIV xIV yIV : Addr} {odIV anIV : Option Addr} {slIV : Array (Option Value)} {ocIV kVIV dcIV pmIV ctIV : Value}
    {u1IV u2IV : Value} {v1IV v2IV : Option Addr} {vsIV : Array Value} {w1IV w2IV : Array (Option Value)} {flIV : Str} {tfIV : Tok}
    {fDI xDI yDI : Addr} {odDI anDI : Option Addr} {slDI : Array (Option Value)} {ocDI kVDI dcDI pmDI ctDI : Value}
    {u1DI u2DI : Value} {v1DI v2DI : Option Addr} {vsDI : Array Value} {w1DI w2DI : Array (Option Value)} {flDI : Str} {tfDI : Tok}
    {fSI xSI ySI : Addr} {odSI anSI : Option Addr} {slSI : Array (Option Value)} {ocSI kVSI dcSI pmSI ctSI : Value}
    {u1SI u2SI : Value} {v1SI v2SI : Option Addr} {vsSI : Array Value} {w1SI w2SI : Array (Option Value)} {flSI : Str} {tfSI : Tok}
    {cdCI : ClassData}
    {cdCD : ClassData}
    {cdCS : ClassData}
    {cdCL : ClassData}
    {cdCV : ClassData}
    {nm q : Str} {Ns : Addr} {bs bm sub : List Value} {sn : List Str} {ab : Bool} {col : Option Bool} {dd : Option Addr} {k0 k1 k2 k3 k5 : Option Value}
    {nm2 q2 : Str} {Ns2 : Addr} {bs2 bm2 sub2 : List Value} {sn2 : List Str} {ab2 : Bool} {col2 : Option Bool} {dd2 : Option Addr} {k02 k12 k22 k32 k52 : Option Value}
    {fLw cLw PtLw : Addr} {odLw anLw : Option Addr} {slLw : Array (Option Value)} {ocLw kVLw dcLw pmLw ctLw : Value} {eLw : Value} {ddLw : Option Addr} {vsLw : Array Value} {scLw : Array (Option Value)}
    (gCI : PySem.W.nsIn K mainGlobals "InvalidFrame" = some (some (.ref CI)))
    (gCL : PySem.W.nsIn K mainGlobals "Leg" = some (some (.ref CL)))
    (gCD : PySem.W.nsIn K mainGlobals "Driver" = some (some (.ref CD)))
    (gCS : PySem.W.nsIn K mainGlobals "Listener" = some (some (.ref CS)))
    (gCF : PySem.W.nsIn K mainGlobals "Frame" = some (some (.ref CF)))
    (gCB : PySem.W.nsIn K mainGlobals "Board" = some (some (.ref CB)))
    (gCV : PySem.W.nsIn K mainGlobals "InvalidBoard" = some (some (.ref CV)))
    (gCJ : PySem.W.nsIn K mainGlobals "JoinError" = some (some (.ref CJ)))
    (gLet : PySem.W.nsIn K mainGlobals "LETTERS" = some (some (.str lettersS tL)))
    (gLon : PySem.W.nsIn K mainGlobals "LONGEST" = some (some (.int 8 tN)))
    (gRes : PySem.W.nsIn K mainGlobals "RESERVED" = some (some (.ref aR)))
    (lRes : K.lookup aR = some ⟨.type "tuple", dR, .seq itsR nR, slR⟩)
    (sRes : itsR.size ≤ sizeLine)
    (vRes : Vals reservedV itsR.toList)
    (z_ValueError : PySem.W.nsIn K mainGlobals "ValueError" = some none)
    (z_any : PySem.W.nsIn K mainGlobals "any" = some none)
    (z_set : PySem.W.nsIn K mainGlobals "set" = some none)
    (z_isinstance : PySem.W.nsIn K mainGlobals "isinstance" = some none)
    (z_str : PySem.W.nsIn K mainGlobals "str" = some none)
    (z_len : PySem.W.nsIn K mainGlobals "len" = some none)
    (z_all : PySem.W.nsIn K mainGlobals "all" = some none)
    (z_bool : PySem.W.nsIn K mainGlobals "bool" = some none)
    (z_int : PySem.W.nsIn K mainGlobals "int" = some none)
    (z_abs : PySem.W.nsIn K mainGlobals "abs" = some none)
    (z_range : PySem.W.nsIn K mainGlobals "range" = some none)
    (z_list : PySem.W.nsIn K mainGlobals "list" = some none)
    (z_tuple : PySem.W.nsIn K mainGlobals "tuple" = some none)
    (z_sorted : PySem.W.nsIn K mainGlobals "sorted" = some none)
    (z_super : PySem.W.nsIn K mainGlobals "super" = some none)
    (z_repr : PySem.W.nsIn K mainGlobals "repr" = some none)
    (tyB : PySem.W.typeIn K (.ref CB) = some mcB)
    (rdB : PySem.W.readsIn K CB mcB = true)
    (gaB : PySem.W.specialIn K (.ref CB) "__getattribute__" = some (some (.builtin "type.__getattribute__")))
    (aN : PySem.W.nsIn K mainGlobals "is_name" = some (some (.ref fN)))
    (lN : K.lookup fN = some ⟨ocN, odN, .func (PySem.W.fnOf "is_name" "is_name" (defArgs sIsName) (defBody sIsName) (defScope sIsName) .none kVN dcN pmN anN cdN ctN), slN⟩)
    (cN : PySem.W.codeIn K cdN "is_name" = true)
    (kN : PySem.W.keepIn K (.ref fN) = true)
    (aIi : PySem.W.nsIn K mainGlobals "is_integer" = some (some (.ref fIi)))
    (lIi : K.lookup fIi = some ⟨ocIi, odIi, .func (PySem.W.fnOf "is_integer" "is_integer" (defArgs sIsInt) (defBody sIsInt) (defScope sIsInt) .none kVIi dcIi pmIi anIi cdIi ctIi), slIi⟩)
    (cIi : PySem.W.codeIn K cdIi "is_integer" = true)
    (kIi : PySem.W.keepIn K (.ref fIi) = true)
    (aBt : PySem.W.nsIn K mainGlobals "is_between" = some (some (.ref fBt)))
    (lBt : K.lookup fBt = some ⟨ocBt, odBt, .func (PySem.W.fnOf "is_between" "is_between" (defArgs sBetw) (defBody sBetw) (defScope sBetw) .none kVBt dcBt pmBt anBt cdBt ctBt), slBt⟩)
    (cBt : PySem.W.codeIn K cdBt "is_between" = true)
    (kBt : PySem.W.keepIn K (.ref fBt) = true)
    (aWr : PySem.W.nsIn K mainGlobals "wrong_frame" = some (some (.ref fWr)))
    (lWr : K.lookup fWr = some ⟨ocWr, odWr, .func (PySem.W.fnOf "wrong_frame" "wrong_frame" (defArgs sWrong) (defBody sWrong) (defScope sWrong) .none kVWr dcWr pmWr anWr cdWr ctWr), slWr⟩)
    (cWr : PySem.W.codeIn K cdWr "wrong_frame" = true)
    (kWr : PySem.W.keepIn K (.ref fWr) = true)
    (aLI : PySem.W.findIn K (.ref CL) "__init__" = some (some (.ref fLI)))
    (iLI : PySem.W.isFn K (.ref fLI) = true)
    (lLI : K.lookup fLI = some ⟨ocLI, odLI, .func (PySem.W.fnOf "__init__" "Leg.__init__" (defArgs sLegI) (defBody sLegI) (defScope sLegI) .none kVLI dcLI pmLI anLI cdLI ctLI), slLI⟩)
    (cLI : PySem.W.codeIn K cdLI "Leg.__init__" = true)
    (kLI : PySem.W.keepIn K (.ref fLI) = true)
    (aPn : PySem.W.nsIn K mainGlobals "_law_pen" = some (some (.ref fPn)))
    (lPn : K.lookup fPn = some ⟨ocPn, odPn, .func (PySem.W.fnOf "_law_pen" "_law_pen" (defArgs sPen) (defBody sPen) (defScope sPen) .none kVPn dcPn pmPn anPn cdPn ctPn), slPn⟩)
    (cPn : PySem.W.codeIn K cdPn "_law_pen" = true)
    (kPn : PySem.W.keepIn K (.ref fPn) = true)
    (aDr : PySem.W.nsIn K mainGlobals "_law_draw" = some (some (.ref fDr)))
    (lDr : K.lookup fDr = some ⟨ocDr, odDr, .func (PySem.W.fnOf "_law_draw" "_law_draw" (defArgs sDraw) (defBody sDraw) (defScope sDraw) .none kVDr dcDr pmDr anDr cdDr ctDr), slDr⟩)
    (cDr : PySem.W.codeIn K cdDr "_law_draw" = true)
    (kDr : PySem.W.keepIn K (.ref fDr) = true)
    (aPk : PySem.W.nsIn K mainGlobals "_law_pick" = some (some (.ref fPk)))
    (lPk : K.lookup fPk = some ⟨ocPk, odPk, .func (PySem.W.fnOf "_law_pick" "_law_pick" (defArgs sPick) (defBody sPick) (defScope sPick) .none kVPk dcPk pmPk anPk cdPk ctPk), slPk⟩)
    (cPk : PySem.W.codeIn K cdPk "_law_pick" = true)
    (kPk : PySem.W.keepIn K (.ref fPk) = true)
    (aTg : PySem.W.nsIn K mainGlobals "_law_tags" = some (some (.ref fTg)))
    (lTg : K.lookup fTg = some ⟨ocTg, odTg, .func (PySem.W.fnOf "_law_tags" "_law_tags" (defArgs sTags) (defBody sTags) (defScope sTags) .none kVTg dcTg pmTg anTg cdTg ctTg), slTg⟩)
    (cTg : PySem.W.codeIn K cdTg "_law_tags" = true)
    (kTg : PySem.W.keepIn K (.ref fTg) = true)
    (aBa : PySem.W.nsIn K mainGlobals "_law_bare" = some (some (.ref fBa)))
    (lBa : K.lookup fBa = some ⟨ocBa, odBa, .func (PySem.W.fnOf "_law_bare" "_law_bare" (defArgs sBare) (defBody sBare) (defScope sBare) .none kVBa dcBa pmBa anBa cdBa ctBa), slBa⟩)
    (cBa : PySem.W.codeIn K cdBa "_law_bare" = true)
    (kBa : PySem.W.keepIn K (.ref fBa) = true)
    (aFm : PySem.W.nsIn K mainGlobals "_law_frame" = some (some (.ref fFm)))
    (lFm : K.lookup fFm = some ⟨ocFm, odFm, .func (PySem.W.fnOf "_law_frame" "_law_frame" (defArgs sFrm) (defBody sFrm) (defScope sFrm) .none kVFm dcFm pmFm anFm cdFm ctFm), slFm⟩)
    (cFm : PySem.W.codeIn K cdFm "_law_frame" = true)
    (kFm : PySem.W.keepIn K (.ref fFm) = true)
    (aLg : PySem.W.nsIn K mainGlobals "_law_legs" = some (some (.ref fLg)))
    (lLg : K.lookup fLg = some ⟨ocLg, odLg, .func (PySem.W.fnOf "_law_legs" "_law_legs" (defArgs sLgs) (defBody sLgs) (defScope sLgs) .none kVLg dcLg pmLg anLg cdLg ctLg), slLg⟩)
    (cLg : PySem.W.codeIn K cdLg "_law_legs" = true)
    (kLg : PySem.W.keepIn K (.ref fLg) = true)
    (aMm : PySem.W.nsIn K mainGlobals "_law_members" = some (some (.ref fMm)))
    (lMm : K.lookup fMm = some ⟨ocMm, odMm, .func (PySem.W.fnOf "_law_members" "_law_members" (defArgs sMms) (defBody sMms) (defScope sMms) .none kVMm dcMm pmMm anMm cdMm ctMm), slMm⟩)
    (cMm : PySem.W.codeIn K cdMm "_law_members" = true)
    (kMm : PySem.W.keepIn K (.ref fMm) = true)
    (aOd : PySem.W.nsIn K mainGlobals "_law_odd" = some (some (.ref fOd)))
    (lOd : K.lookup fOd = some ⟨ocOd, odOd, .func (PySem.W.fnOf "_law_odd" "_law_odd" (defArgs sOdd) (defBody sOdd) (defScope sOdd) .none kVOd dcOd pmOd anOd cdOd ctOd), slOd⟩)
    (cOd : PySem.W.codeIn K cdOd "_law_odd" = true)
    (kOd : PySem.W.keepIn K (.ref fOd) = true)
    (aIm : PySem.W.nsIn K mainGlobals "is_member" = some (some (.ref fIm)))
    (lIm : K.lookup fIm = some ⟨ocIm, odIm, .func (PySem.W.fnOf "is_member" "is_member" (defArgs sIsM) (defBody sIsM) (defScope sIsM) .none kVIm dcIm pmIm anIm cdIm ctIm), slIm⟩)
    (cIm : PySem.W.codeIn K cdIm "is_member" = true)
    (kIm : PySem.W.keepIn K (.ref fIm) = true)
    (aWb : PySem.W.nsIn K mainGlobals "wrong_blocks" = some (some (.ref fWb)))
    (lWb : K.lookup fWb = some ⟨ocWb, odWb, .func (PySem.W.fnOf "wrong_blocks" "wrong_blocks" (defArgs sWb) (defBody sWb) (defScope sWb) .none kVWb dcWb pmWb anWb cdWb ctWb), slWb⟩)
    (cWb : PySem.W.codeIn K cdWb "wrong_blocks" = true)
    (kWb : PySem.W.keepIn K (.ref fWb) = true)
    (aPa : PySem.W.nsIn K mainGlobals "_law_parted" = some (some (.ref fPa)))
    (lPa : K.lookup fPa = some ⟨ocPa, odPa, .func (PySem.W.fnOf "_law_parted" "_law_parted" (defArgs sPar) (defBody sPar) (defScope sPar) .none kVPa dcPa pmPa anPa cdPa ctPa), slPa⟩)
    (cPa : PySem.W.codeIn K cdPa "_law_parted" = true)
    (kPa : PySem.W.keepIn K (.ref fPa) = true)
    (aBe : PySem.W.nsIn K mainGlobals "_law_bent" = some (some (.ref fBe)))
    (lBe : K.lookup fBe = some ⟨ocBe, odBe, .func (PySem.W.fnOf "_law_bent" "_law_bent" (defArgs sBen) (defBody sBen) (defScope sBen) .none kVBe dcBe pmBe anBe cdBe ctBe), slBe⟩)
    (cBe : PySem.W.codeIn K cdBe "_law_bent" = true)
    (kBe : PySem.W.keepIn K (.ref fBe) = true)
    (aDu : PySem.W.nsIn K mainGlobals "_law_due" = some (some (.ref fDu)))
    (lDu : K.lookup fDu = some ⟨ocDu, odDu, .func (PySem.W.fnOf "_law_due" "_law_due" (defArgs sDue) (defBody sDue) (defScope sDue) .none kVDu dcDu pmDu anDu cdDu ctDu), slDu⟩)
    (cDu : PySem.W.codeIn K cdDu "_law_due" = true)
    (kDu : PySem.W.keepIn K (.ref fDu) = true)
    (aHe : PySem.W.nsIn K mainGlobals "_law_heard" = some (some (.ref fHe)))
    (lHe : K.lookup fHe = some ⟨ocHe, odHe, .func (PySem.W.fnOf "_law_heard" "_law_heard" (defArgs sHea) (defBody sHea) (defScope sHea) .none kVHe dcHe pmHe anHe cdHe ctHe), slHe⟩)
    (cHe : PySem.W.codeIn K cdHe "_law_heard" = true)
    (kHe : PySem.W.keepIn K (.ref fHe) = true)
    (agN : PySem.W.findIn K (.ref CF) "names" = some (some (.ref pgN)))
    (bgN : PySem.W.specialIn K (.ref pgN) "__get__" = some (some (.builtin "property.__get__")))
    (dgN : PySem.W.takesIn K (.ref pgN) = some true)
    (egN : PySem.W.recIn K pgN "property" = some (.ref fgN :: rsgN))
    (lgN : K.lookup fgN = some ⟨ocgN, odgN, .func (PySem.W.fnOf "names" "Frame.names" (defArgs (sFr 4)) (defBody (sFr 4)) (defScope (sFr 4)) .none kVgN dcgN pmgN angN cdgN ctgN), slgN⟩)
    (cgN : PySem.W.codeIn K cdgN "Frame.names" = true)
    (kgN : PySem.W.keepIn K (.ref fgN) = true)
    (agR : PySem.W.findIn K (.ref CF) "rails" = some (some (.ref pgR)))
    (bgR : PySem.W.specialIn K (.ref pgR) "__get__" = some (some (.builtin "property.__get__")))
    (dgR : PySem.W.takesIn K (.ref pgR) = some true)
    (egR : PySem.W.recIn K pgR "property" = some (.ref fgR :: rsgR))
    (lgR : K.lookup fgR = some ⟨ocgR, odgR, .func (PySem.W.fnOf "rails" "Frame.rails" (defArgs (sFr 7)) (defBody (sFr 7)) (defScope (sFr 7)) .none kVgR dcgR pmgR angR cdgR ctgR), slgR⟩)
    (cgR : PySem.W.codeIn K cdgR "Frame.rails" = true)
    (kgR : PySem.W.keepIn K (.ref fgR) = true)
    (agM : PySem.W.findIn K (.ref CF) "members" = some (some (.ref pgM)))
    (bgM : PySem.W.specialIn K (.ref pgM) "__get__" = some (some (.builtin "property.__get__")))
    (dgM : PySem.W.takesIn K (.ref pgM) = some true)
    (egM : PySem.W.recIn K pgM "property" = some (.ref fgM :: rsgM))
    (lgM : K.lookup fgM = some ⟨ocgM, odgM, .func (PySem.W.fnOf "members" "Frame.members" (defArgs (sFr 8)) (defBody (sFr 8)) (defScope (sFr 8)) .none kVgM dcgM pmgM angM cdgM ctgM), slgM⟩)
    (cgM : PySem.W.codeIn K cdgM "Frame.members" = true)
    (kgM : PySem.W.keepIn K (.ref fgM) = true)
    (amC : PySem.W.findIn K (.ref CF) "__contains__" = some (some (.ref fmC)))
    (imC : PySem.W.isFn K (.ref fmC) = true)
    (jmC : PySem.W.fnIn K fmC = true)
    (lmC : K.lookup fmC = some ⟨ocmC, odmC, .func (PySem.W.fnOf "__contains__" "Frame.__contains__" (defArgs (sFr 9)) (defBody (sFr 9)) (defScope (sFr 9)) .none kVmC dcmC pmmC anmC cdmC ctmC), slmC⟩)
    (cmC : PySem.W.codeIn K cdmC "Frame.__contains__" = true)
    (kmC : PySem.W.keepIn K (.ref fmC) = true)
    (aDvD : PySem.W.findIn K (.ref CD) "drives" = some (some (.ref pDvD)))
    (bDvD : PySem.W.specialIn K (.ref pDvD) "__get__" = some (some (.builtin "property.__get__")))
    (dDvD : PySem.W.takesIn K (.ref pDvD) = some true)
    (eDvD : PySem.W.recIn K pDvD "property" = some (.ref fDvD :: rsDvD))
    (lDvD : K.lookup fDvD = some ⟨ocDvD, odDvD, .func (PySem.W.fnOf "drives" "Driver.drives" (defArgs (sDrv 2)) (defBody (sDrv 2)) (defScope (sDrv 2)) .none kVDvD dcDvD pmDvD anDvD cdDvD ctDvD), slDvD⟩)
    (cDvD : PySem.W.codeIn K cdDvD "Driver.drives" = true)
    (kDvD : PySem.W.keepIn K (.ref fDvD) = true)
    (aDvS : PySem.W.findIn K (.ref CS) "drives" = some (some (.ref pDvS)))
    (bDvS : PySem.W.specialIn K (.ref pDvS) "__get__" = some (some (.builtin "property.__get__")))
    (dDvS : PySem.W.takesIn K (.ref pDvS) = some true)
    (eDvS : PySem.W.recIn K pDvS "property" = some (.ref fDvS :: rsDvS))
    (lDvS : K.lookup fDvS = some ⟨ocDvS, odDvS, .func (PySem.W.fnOf "drives" "Listener.drives" (defArgs (sLis 2)) (defBody (sLis 2)) (defScope (sLis 2)) .none kVDvS dcDvS pmDvS anDvS cdDvS ctDvS), slDvS⟩)
    (cDvS : PySem.W.codeIn K cdDvS "Listener.drives" = true)
    (kDvS : PySem.W.keepIn K (.ref fDvS) = true)
    (abI : PySem.W.findIn K (.ref CB) "__init__" = some (some (.ref fbI)))
    (ibI : PySem.W.isFn K (.ref fbI) = true)
    (lbI : K.lookup fbI = some ⟨ocbI, odbI, .func (PySem.W.fnOf "__init__" "Board.__init__" (defArgs sBoI) (defBody sBoI) (defScope sBoI) .none kVbI dcbI pmbI anbI cdbI ctbI), slbI⟩)
    (cbI : PySem.W.codeIn K cdbI "Board.__init__" = true)
    (kbI : PySem.W.keepIn K (.ref fbI) = true)
    (abO : PySem.W.findCls K (.ref CB) mcB "of" = some (.get (.builtin "classmethod.__get__") (.ref pbO) .none (.ref CB)))
    (rbO : PySem.W.recIn K pbO "classmethod" = some (.ref fbO :: rsbO))
    (jbO : PySem.W.fnIn K fbO = true)
    (lbO : K.lookup fbO = some ⟨ocbO, odbO, .func (PySem.W.fnOf "of" "Board.of" (defArgs sBoO) (defBody sBoO) (defScope sBoO) .none kVbO dcbO pmbO anbO cdbO ctbO), slbO⟩)
    (cbO : PySem.W.codeIn K cdbO "Board.of" = true)
    (kbO : PySem.W.keepIn K (.ref fbO) = true)
    (aFI : PySem.W.findIn K (.ref CF) "__init__" = some (some (.ref fFI)))
    (iFI : PySem.W.isFn K (.ref fFI) = true)
    (lFI : K.lookup fFI = some ⟨ocFI, odFI, .func (PySem.W.fnOf "__init__" "Frame.__init__" (defArgs sFrI) (defBody sFrI) (defScope sFrI) .none (.ref DFI) dcFI pmFI anFI cdFI ctFI), slFI⟩)
    (cFI : PySem.W.codeIn K cdFI "Frame.__init__" = true)
    (kFI : PySem.W.keepIn K (.ref fFI) = true)
    (n1FI : PySem.W.nsIn K DFI "top" = some (some x1FI))
    (r1FI : RelV (.int 1) x1FI)
    (n2FI : PySem.W.nsIn K DFI "ground" = some (some x2FI))
    (r2FI : RelV (.bl false) x2FI)
    (n3FI : PySem.W.nsIn K DFI "power" = some (some x3FI))
    (r3FI : RelV (.bl false) x3FI)
    (tyF : PySem.W.typeIn K (.ref CF) = some mcF)
    (rdF : PySem.W.readsIn K CF mcF = true)
    (gaF : PySem.W.specialIn K (.ref CF) "__getattribute__" = some (some (.builtin "type.__getattribute__")))
    (moF : PySem.W.findCls K (.ref CF) mcF "MOST" = some (.val uM))
    (rmF : RelV (.int 40) uM)
    (aO : PySem.W.findCls K (.ref CF) mcF "of" = some (.get (.builtin "classmethod.__get__") (.ref pO) .none (.ref CF)))
    (rO : PySem.W.recIn K pO "classmethod" = some (.ref fO :: rsO))
    (fO_ : PySem.W.fnIn K fO = true)
    (lO : K.lookup fO = some ⟨ocO, odO, .func (PySem.W.fnOf "of" "Frame.of" (defArgs sOf) (defBody sOf) (defScope sOf) .none (.ref DO) dcO pmO anO cdO ctO), slO⟩)
    (cO : PySem.W.codeIn K cdO "Frame.of" = true)
    (kO : PySem.W.keepIn K (.ref fO) = true)
    (n1O : PySem.W.nsIn K DO "top" = some (some x1O))
    (r1O : RelV (.int 1) x1O)
    (n2O : PySem.W.nsIn K DO "ground" = some (some x2O))
    (r2O : RelV (.bl false) x2O)
    (n3O : PySem.W.nsIn K DO "power" = some (some x3O))
    (r3O : RelV (.bl false) x3O)
    (aIE : PySem.W.findIn K (.ref CI) "__init__" = some (some (.ref fIE)))
    (iIE : PySem.W.isFn K (.ref fIE) = true)
    (tIE : PySem.W.typeIn K (.ref fIE) = some (.type "function"))
    (lIE : K.lookup fIE = some ⟨ocIE, odIE, .func (PySem.W.fnX "__init__" "InvalidFrame.__init__" (defArgs sInv) (defBody sInv) (defScope sInv) [("__class__", yIE)] .none kVIE dcIE pmIE anIE (.ref xIE) ctIE), slIE⟩)
    (cIE : PySem.W.codeIn K (.ref xIE) "InvalidFrame.__init__" = true)
    (mIE : K.lookup xIE = some ⟨u1IE, v1IE, .fields vsIE, w1IE⟩)
    (nIE : vsIE[2]? = some (.str flIE tfIE))
    (pIE : ((P.main.file : Str) == flIE) = true)
    (qIE : K.lookup yIE = some ⟨u2IE, v2IE, .cell (some (.ref CI)), w2IE⟩)
    (kIE : PySem.W.keepIn K (.ref fIE) = true)
    (aIV : PySem.W.findIn K (.ref CV) "__init__" = some (some (.ref fIV)))
    (iIV : PySem.W.isFn K (.ref fIV) = true)
    (tIV : PySem.W.typeIn K (.ref fIV) = some (.type "function"))
    (lIV : K.lookup fIV = some ⟨ocIV, odIV, .func (PySem.W.fnX "__init__" "InvalidBoard.__init__" (defArgs sIvB) (defBody sIvB) (defScope sIvB) [("__class__", yIV)] .none kVIV dcIV pmIV anIV (.ref xIV) ctIV), slIV⟩)
    (cIV : PySem.W.codeIn K (.ref xIV) "InvalidBoard.__init__" = true)
    (mIV : K.lookup xIV = some ⟨u1IV, v1IV, .fields vsIV, w1IV⟩)
    (nIV : vsIV[2]? = some (.str flIV tfIV))
    (pIV : ((P.main.file : Str) == flIV) = true)
    (qIV : K.lookup yIV = some ⟨u2IV, v2IV, .cell (some (.ref CV)), w2IV⟩)
    (kIV : PySem.W.keepIn K (.ref fIV) = true)
    (aDI : PySem.W.findIn K (.ref CD) "__init__" = some (some (.ref fDI)))
    (iDI : PySem.W.isFn K (.ref fDI) = true)
    (tDI : PySem.W.typeIn K (.ref fDI) = some (.type "function"))
    (lDI : K.lookup fDI = some ⟨ocDI, odDI, .func (PySem.W.fnX "__init__" "Driver.__init__" (defArgs sDrvI) (defBody sDrvI) (defScope sDrvI) [("__class__", yDI)] .none kVDI dcDI pmDI anDI (.ref xDI) ctDI), slDI⟩)
    (cDI : PySem.W.codeIn K (.ref xDI) "Driver.__init__" = true)
    (mDI : K.lookup xDI = some ⟨u1DI, v1DI, .fields vsDI, w1DI⟩)
    (nDI : vsDI[2]? = some (.str flDI tfDI))
    (pDI : ((P.main.file : Str) == flDI) = true)
    (qDI : K.lookup yDI = some ⟨u2DI, v2DI, .cell (some (.ref CD)), w2DI⟩)
    (kDI : PySem.W.keepIn K (.ref fDI) = true)
    (aSI : PySem.W.findIn K (.ref CS) "__init__" = some (some (.ref fSI)))
    (iSI : PySem.W.isFn K (.ref fSI) = true)
    (tSI : PySem.W.typeIn K (.ref fSI) = some (.type "function"))
    (lSI : K.lookup fSI = some ⟨ocSI, odSI, .func (PySem.W.fnX "__init__" "Listener.__init__" (defArgs sLisI) (defBody sLisI) (defScope sLisI) [("__class__", ySI)] .none kVSI dcSI pmSI anSI (.ref xSI) ctSI), slSI⟩)
    (cSI : PySem.W.codeIn K (.ref xSI) "Listener.__init__" = true)
    (mSI : K.lookup xSI = some ⟨u1SI, v1SI, .fields vsSI, w1SI⟩)
    (nSI : vsSI[2]? = some (.str flSI tfSI))
    (pSI : ((P.main.file : Str) == flSI) = true)
    (qSI : K.lookup ySI = some ⟨u2SI, v2SI, .cell (some (.ref CS)), w2SI⟩)
    (kSI : PySem.W.keepIn K (.ref fSI) = true)
    (top_ : (P.main.scope.names.lookup ("super" : Str)).isSome = false)
    (third : PySem.W.nsIn K cStatics "thirdparty.any" = some none)
    (clsCI : PySem.W.clsIn K CI = some cdCI)
    (mrCI : PySem.W.mroIn K CI (.ref CI) = some true)
    (clsCD : PySem.W.clsIn K CD = some cdCD)
    (mrCD : PySem.W.mroIn K CD (.ref CD) = some true)
    (clsCS : PySem.W.clsIn K CS = some cdCS)
    (mrCS : PySem.W.mroIn K CS (.ref CS) = some true)
    (clsCL : PySem.W.clsIn K CL = some cdCL)
    (mrCL : PySem.W.mroIn K CL (.ref CL) = some true)
    (clsCV : PySem.W.clsIn K CV = some cdCV)
    (mrCV : PySem.W.mroIn K CV (.ref CV) = some true)
    (exL : K.lookup CI = some (excClassObj nm q CI Ns bs bm true sn sub ab col dd k0 k1 k2 k3 k5 "ValueError.__new__"))
    (exR : PySem.HandSPX.refsVE bm = true)
    (exS : PySem.W.findIn K (.ref CI) "__setattr__" = some (some (.builtin "object.__setattr__")))
    (exB : PySem.W.subIn K (.ref CI) (.type "BaseException") = some true)
    (exV : PySem.W.subIn K (.ref CI) (.type "ValueError") = some true)
    (exT : PySem.W.typeIn K (.ref CI) = some (.type "type"))
    (exK : PySem.W.keepIn K (.ref CI) = true)
    (exN : PySem.W.findIn K (.ref CI) "reason" = some none)
    (exU : PySem.W.ks_superIn K CI CI "__init__" = some (some (.builtin "ValueError.__init__")))
    (vxL : K.lookup CV = some (excClassObj nm2 q2 CV Ns2 bs2 bm2 true sn2 sub2 ab2 col2 dd2 k02 k12 k22 k32 k52 "ValueError.__new__"))
    (vxR : PySem.HandSPX.refsVE bm2 = true)
    (vxS : PySem.W.findIn K (.ref CV) "__setattr__" = some (some (.builtin "object.__setattr__")))
    (vxB : PySem.W.subIn K (.ref CV) (.type "BaseException") = some true)
    (vxV : PySem.W.subIn K (.ref CV) (.type "ValueError") = some true)
    (vxT : PySem.W.typeIn K (.ref CV) = some (.type "type"))
    (vxK : PySem.W.keepIn K (.ref CV) = true)
    (vxN : PySem.W.findIn K (.ref CV) "reason" = some none)
    (vxU : PySem.W.ks_superIn K CV CV "__init__" = some (some (.builtin "ValueError.__init__")))
    (exVJ : PySem.W.exmOne K (.ref CV) (.ref CJ) = some true)
    (kiVV : PySem.W.kitOne K (.ref CV) (.ref CV) = some true)
    (kiVE : PySem.W.kitOne K (.ref CV) (.type "ValueError") = some true)
    (gaV : PySem.W.findIn K (.ref CV) "__getattribute__" = some (some (.builtin "BaseException.__getattribute__")))
    (ggV : PySem.W.findIn K (.ref CV) "__getattr__" = some none)
    (hdV : PySem.W.hasDictIn K CV = true)
    (caV : PySem.W.findIn K (.ref CV) "__class__" = some (some (.builtin "object.__class__")))
    (obV : PySem.W.mroIn K CV (.type "object") = some true)
    (fnLI : PySem.W.fnIn K fLI = true)
    (tyLI : PySem.W.typeIn K (.ref fLI) = some (.type "function"))
    (suCD : PySem.W.ks_superIn K CD CD "__init__" = some (some (.ref fLI)))
    (suCS : PySem.W.ks_superIn K CS CS "__init__" = some (some (.ref fLI)))
    (pgCD : PySem.W.plainGet K CD Str.empty = true)
    (hdCD : PySem.W.hasDictIn K CD = true)
    (poCD : PySem.W.plainOver K CD = true)
    (saCD : PySem.W.findIn K (.ref CD) "__setattr__" = some (some (.builtin "object.__setattr__")))
    (mkCD : PySem.W.makesIn K CD = true)
    (kcCD : PySem.W.keepIn K (.ref CD) = true)
    (caCD : PySem.W.findIn K (.ref CD) "__class__" = some (some (.builtin "object.__class__")))
    (obCD : PySem.W.mroIn K CD (.type "object") = some true)
    (nnCD : PySem.W.findIn K (.ref CD) "name" = some none)
    (pgCS : PySem.W.plainGet K CS Str.empty = true)
    (hdCS : PySem.W.hasDictIn K CS = true)
    (poCS : PySem.W.plainOver K CS = true)
    (saCS : PySem.W.findIn K (.ref CS) "__setattr__" = some (some (.builtin "object.__setattr__")))
    (mkCS : PySem.W.makesIn K CS = true)
    (kcCS : PySem.W.keepIn K (.ref CS) = true)
    (caCS : PySem.W.findIn K (.ref CS) "__class__" = some (some (.builtin "object.__class__")))
    (obCS : PySem.W.mroIn K CS (.type "object") = some true)
    (nnCS : PySem.W.findIn K (.ref CS) "name" = some none)
    (pgCF : PySem.W.plainGet K CF Str.empty = true)
    (hdCF : PySem.W.hasDictIn K CF = true)
    (poCF : PySem.W.plainOver K CF = true)
    (saCF : PySem.W.findIn K (.ref CF) "__setattr__" = some (some (.builtin "object.__setattr__")))
    (mkCF : PySem.W.makesIn K CF = true)
    (kcCF : PySem.W.keepIn K (.ref CF) = true)
    (caCF : PySem.W.findIn K (.ref CF) "__class__" = some (some (.builtin "object.__class__")))
    (obCF : PySem.W.mroIn K CF (.type "object") = some true)
    (pgCB : PySem.W.plainGet K CB Str.empty = true)
    (hdCB : PySem.W.hasDictIn K CB = true)
    (poCB : PySem.W.plainOver K CB = true)
    (saCB : PySem.W.findIn K (.ref CB) "__setattr__" = some (some (.builtin "object.__setattr__")))
    (mkCB : PySem.W.makesIn K CB = true)
    (kcCB : PySem.W.keepIn K (.ref CB) = true)
    (caCB : PySem.W.findIn K (.ref CB) "__class__" = some (some (.builtin "object.__class__")))
    (obCB : PySem.W.mroIn K CB (.type "object") = some true)
    (nbframe : PySem.W.findIn K (.ref CB) "frame" = some none)
    (nb_blocks : PySem.W.findIn K (.ref CB) "_blocks" = some none)
    (nb_homes : PySem.W.findIn K (.ref CB) "_homes" = some none)
    (nf_legs : PySem.W.findIn K (.ref CF) "_legs" = some none)
    (nftop : PySem.W.findIn K (.ref CF) "top" = some none)
    (nfground : PySem.W.findIn K (.ref CF) "ground" = some none)
    (nfpower : PySem.W.findIn K (.ref CF) "power" = some none)
    (cn : PySem.W.specialIn K (.builtin "object.__class__") "__get__" = some (some (.builtin "getset_descriptor.__get__")))
    (ct : PySem.W.takesIn K (.builtin "object.__class__") = some true)
    (kdd : PySem.W.kitAny K (.ref CD) [.ref CD, .ref CS] = some true)
    (kii : PySem.W.kitAny K (.ref CS) [.ref CD, .ref CS] = some true)
    (klt : PySem.W.kitAny K (.type "list") [.type "list", .type "tuple"] = some true)
    (ktt : PySem.W.kitAny K (.type "tuple") [.type "list", .type "tuple"] = some true)
    (neDS : CD ≠ CS)
    (aLw : PySem.W.nsIn K mainGlobals "law" = some (some (.ref fLw)))
    (lLw : K.lookup fLw = some ⟨ocLw, odLw, .func (PySem.W.fnOf "law" "law" (defArgs sLaw10) (defBody sLaw10) (defScope sLaw10) .none kVLw dcLw pmLw anLw (.ref cLw) ctLw), slLw⟩)
    (cLw_ : PySem.W.codeIn K (.ref cLw) "law" = true)
    (oLw : K.lookup cLw = some ⟨eLw, ddLw, .fields vsLw, scLw⟩)
    (vLw : vsLw[11]? = some (.ref PtLw))
    (hLw : PySem.W.codeHdIn K cLw PtLw = true)
    (tLw_ : K.lookup PtLw = none) :
    ∃ c Pt : Addr, h.get? Pt = some { cls := .none, data := .fields #[] } ∧ K.lookup Pt = none ∧ PySem.W.CodeHd h c Pt ∧ ∀ base : Heap, K.In base → base.Ns mainGlobals mg → TabB base mg c Pt → AtCall P w K mg base fa (spLaw10 K Pt) := by
  have e := hfa.symm.trans (PySem.W.mg_of X G aLw)
  cases e
  have tab : h.get? PtLw = some { cls := .none, data := .fields #[] } := own cLw PtLw _ _ _ _ _ _ lLw rfl rfl oLw vLw
  refine ⟨cLw, PtLw, tab, tLw_, PySem.W.codeHd_of_K X hLw, fun base _ _ TBL => ?_⟩
  have mCI := PySem.W.mg_of X G gCI
  have mCL := PySem.W.mg_of X G gCL
  have mCD := PySem.W.mg_of X G gCD
  have mCS := PySem.W.mg_of X G gCS
  have mCF := PySem.W.mg_of X G gCF
  have mCB := PySem.W.mg_of X G gCB
  have mCV := PySem.W.mg_of X G gCV
  have mCJ := PySem.W.mg_of X G gCJ
  have y_ValueError := PySem.W.mg_none_of X G z_ValueError
  have y_any := PySem.W.mg_none_of X G z_any
  have y_set := PySem.W.mg_none_of X G z_set
  have y_isinstance := PySem.W.mg_none_of X G z_isinstance
  have y_str := PySem.W.mg_none_of X G z_str
  have y_len := PySem.W.mg_none_of X G z_len
  have y_all := PySem.W.mg_none_of X G z_all
  have y_bool := PySem.W.mg_none_of X G z_bool
  have y_int := PySem.W.mg_none_of X G z_int
  have y_abs := PySem.W.mg_none_of X G z_abs
  have y_range := PySem.W.mg_none_of X G z_range
  have y_list := PySem.W.mg_none_of X G z_list
  have y_tuple := PySem.W.mg_none_of X G z_tuple
  have y_sorted := PySem.W.mg_none_of X G z_sorted
  have y_super := PySem.W.mg_none_of X G z_super
  have y_repr := PySem.W.mg_none_of X G z_repr
  have FN := fun_mk (x := "is_name") (qual := "is_name") (st := sIsName) lN cN kN
  have mN := PySem.W.mg_of X G aN
  have bN_ := FN.binds (ps := ["value"]) fun _ _ _ _ _ _ us hl => match us, hl with | [_], _ => rfl
  have FIi := fun_mk (x := "is_integer") (qual := "is_integer") (st := sIsInt) lIi cIi kIi
  have mIi := PySem.W.mg_of X G aIi
  have bIi_ := FIi.binds (ps := ["value"]) fun _ _ _ _ _ _ us hl => match us, hl with | [_], _ => rfl
  have FBt := fun_mk (x := "is_between") (qual := "is_between") (st := sBetw) lBt cBt kBt
  have mBt := PySem.W.mg_of X G aBt
  have bBt_ := FBt.binds (ps := ["value", "least", "most"]) fun _ _ _ _ _ _ us hl => match us, hl with | [_, _, _], _ => rfl
  have FWr := fun_mk (x := "wrong_frame") (qual := "wrong_frame") (st := sWrong) lWr cWr kWr
  have mWr := PySem.W.mg_of X G aWr
  have bWr_ := FWr.binds (ps := ["legs", "top", "ground", "power"]) fun _ _ _ _ _ _ us hl => match us, hl with | [_, _, _, _], _ => rfl
  have FLI := fun_mk (x := "__init__") (qual := "Leg.__init__") (st := sLegI) lLI cLI kLI
  have bLI_ := FLI.binds (ps := ["self", "name"]) fun _ _ _ _ _ _ us hl => match us, hl with | [_, _], _ => rfl
  have FPn := fun_mk (x := "_law_pen") (qual := "_law_pen") (st := sPen) lPn cPn kPn
  have mPn := PySem.W.mg_of X G aPn
  have bPn_ := FPn.binds (ps := ["_law_script"]) fun _ _ _ _ _ _ us hl => match us, hl with | [_], _ => rfl
  have FDr := fun_mk (x := "_law_draw") (qual := "_law_draw") (st := sDraw) lDr cDr kDr
  have mDr := PySem.W.mg_of X G aDr
  have bDr_ := FDr.binds (ps := ["_law_pen_here", "_law_many"]) fun _ _ _ _ _ _ us hl => match us, hl with | [_, _], _ => rfl
  have FPk := fun_mk (x := "_law_pick") (qual := "_law_pick") (st := sPick) lPk cPk kPk
  have mPk := PySem.W.mg_of X G aPk
  have bPk_ := FPk.binds (ps := ["_law_pen_here", "_law_some"]) fun _ _ _ _ _ _ us hl => match us, hl with | [_, _], _ => rfl
  have FTg := fun_mk (x := "_law_tags") (qual := "_law_tags") (st := sTags) lTg cTg kTg
  have mTg := PySem.W.mg_of X G aTg
  have bTg_ := FTg.binds (ps := ["_law_pen_here", "_law_many"]) fun _ _ _ _ _ _ us hl => match us, hl with | [_, _], _ => rfl
  have FBa := fun_mk (x := "_law_bare") (qual := "_law_bare") (st := sBare) lBa cBa kBa
  have mBa := PySem.W.mg_of X G aBa
  have bBa_ := FBa.binds (ps := ["_law_pen_here", "_law_most"]) fun _ _ _ _ _ _ us hl => match us, hl with | [_, _], _ => rfl
  have FFm := fun_mk (x := "_law_frame") (qual := "_law_frame") (st := sFrm) lFm cFm kFm
  have mFm := PySem.W.mg_of X G aFm
  have bFm_ := FFm.binds (ps := ["_law_bare_here"]) fun _ _ _ _ _ _ us hl => match us, hl with | [_], _ => rfl
  have FLg := fun_mk (x := "_law_legs") (qual := "_law_legs") (st := sLgs) lLg cLg kLg
  have mLg := PySem.W.mg_of X G aLg
  have bLg_ := FLg.binds (ps := ["_law_bare_here"]) fun _ _ _ _ _ _ us hl => match us, hl with | [_], _ => rfl
  have FMm := fun_mk (x := "_law_members") (qual := "_law_members") (st := sMms) lMm cMm kMm
  have mMm := PySem.W.mg_of X G aMm
  have bMm_ := FMm.binds (ps := ["_law_bare_here"]) fun _ _ _ _ _ _ us hl => match us, hl with | [_], _ => rfl
  have FOd := fun_mk (x := "_law_odd") (qual := "_law_odd") (st := sOdd) lOd cOd kOd
  have mOd := PySem.W.mg_of X G aOd
  have bOd_ := FOd.binds (ps := ["_law_pen_here"]) fun _ _ _ _ _ _ us hl => match us, hl with | [_], _ => rfl
  have FIm := fun_mk (x := "is_member") (qual := "is_member") (st := sIsM) lIm cIm kIm
  have mIm := PySem.W.mg_of X G aIm
  have bIm_ := FIm.binds (ps := ["frame", "value"]) fun _ _ _ _ _ _ us hl => match us, hl with | [_, _], _ => rfl
  have FWb := fun_mk (x := "wrong_blocks") (qual := "wrong_blocks") (st := sWb) lWb cWb kWb
  have mWb := PySem.W.mg_of X G aWb
  have bWb_ := FWb.binds (ps := ["frame", "blocks"]) fun _ _ _ _ _ _ us hl => match us, hl with | [_, _], _ => rfl
  have FPa := fun_mk (x := "_law_parted") (qual := "_law_parted") (st := sPar) lPa cPa kPa
  have mPa := PySem.W.mg_of X G aPa
  have bPa_ := FPa.binds (ps := ["_law_pen_here", "_law_bare_here"]) fun _ _ _ _ _ _ us hl => match us, hl with | [_, _], _ => rfl
  have FBe := fun_mk (x := "_law_bent") (qual := "_law_bent") (st := sBen) lBe cBe kBe
  have mBe := PySem.W.mg_of X G aBe
  have bBe_ := FBe.binds (ps := ["_law_pen_here", "_law_bare_here", "_law_row"]) fun _ _ _ _ _ _ us hl => match us, hl with | [_, _, _], _ => rfl
  have FDu := fun_mk (x := "_law_due") (qual := "_law_due") (st := sDue) lDu cDu kDu
  have mDu := PySem.W.mg_of X G aDu
  have bDu_ := FDu.binds (ps := ["_law_bare_here", "_law_row"]) fun _ _ _ _ _ _ us hl => match us, hl with | [_, _], _ => rfl
  have FHe := fun_mk (x := "_law_heard") (qual := "_law_heard") (st := sHea) lHe cHe kHe
  have mHe := PySem.W.mg_of X G aHe
  have bHe_ := FHe.binds (ps := ["_law_ask"]) fun _ _ _ _ _ _ us hl => match us, hl with | [_], _ => rfl
  have FgN := fun_mk (x := "names") (qual := "Frame.names") (st := (sFr 4)) lgN cgN kgN
  have bgN_ := FgN.binds (ps := ["self"]) fun _ _ _ _ _ _ us hl => match us, hl with | [_], _ => rfl
  have FgR := fun_mk (x := "rails") (qual := "Frame.rails") (st := (sFr 7)) lgR cgR kgR
  have bgR_ := FgR.binds (ps := ["self"]) fun _ _ _ _ _ _ us hl => match us, hl with | [_], _ => rfl
  have FgM := fun_mk (x := "members") (qual := "Frame.members") (st := (sFr 8)) lgM cgM kgM
  have bgM_ := FgM.binds (ps := ["self"]) fun _ _ _ _ _ _ us hl => match us, hl with | [_], _ => rfl
  have FmC := fun_mk (x := "__contains__") (qual := "Frame.__contains__") (st := (sFr 9)) lmC cmC kmC
  have bmC_ := FmC.binds (ps := ["self", "x"]) fun _ _ _ _ _ _ us hl => match us, hl with | [_, _], _ => rfl
  have FDvD := fun_mk (x := "drives") (qual := "Driver.drives") (st := (sDrv 2)) lDvD cDvD kDvD
  have bDvD_ := FDvD.binds (ps := ["self"]) fun _ _ _ _ _ _ us hl => match us, hl with | [_], _ => rfl
  have FDvS := fun_mk (x := "drives") (qual := "Listener.drives") (st := (sLis 2)) lDvS cDvS kDvS
  have bDvS_ := FDvS.binds (ps := ["self"]) fun _ _ _ _ _ _ us hl => match us, hl with | [_], _ => rfl
  have FbI : FunD K "__init__" "Board.__init__" (defArgs sBoI) (defBody sBoI) (defScope sBoI) [] [] fbI _ := ⟨⟨ocbI, odbI, _, _, dcbI, pmbI, anbI, cdbI, ctbI, slbI, rfl, lbI, cbI, .inl ⟨rfl, rfl⟩, .inl rfl⟩, kbI⟩
  have FbO : FunD K "of" "Board.of" (defArgs sBoO) (defBody sBoO) (defScope sBoO) [] [] fbO _ := ⟨⟨ocbO, odbO, _, _, dcbO, pmbO, anbO, cdbO, ctbO, slbO, rfl, lbO, cbO, .inl ⟨rfl, rfl⟩, .inl rfl⟩, kbO⟩
  have FIE : FunS P K "__init__" "InvalidFrame.__init__" sInv fIE _ xIE yIE CI := ⟨⟨ocIE, odIE, kVIE, dcIE, pmIE, anIE, ctIE, slIE, rfl, lIE⟩, cIE, ⟨u1IE, v1IE, vsIE, w1IE, flIE, tfIE, mIE, nIE, pIE⟩, ⟨u2IE, v2IE, w2IE, qIE⟩, kIE⟩
  have bIE_ : Binds K (PySem.W.fnX "__init__" "InvalidFrame.__init__" (defArgs sInv) (defBody sInv) (defScope sInv) [("__class__", yIE)] .none kVIE dcIE pmIE anIE (.ref xIE) ctIE) ["self", "reason"] [] := .all fun us hl => match us, hl with | [_, _], _ => rfl
  have FIV : FunS P K "__init__" "InvalidBoard.__init__" sIvB fIV _ xIV yIV CV := ⟨⟨ocIV, odIV, kVIV, dcIV, pmIV, anIV, ctIV, slIV, rfl, lIV⟩, cIV, ⟨u1IV, v1IV, vsIV, w1IV, flIV, tfIV, mIV, nIV, pIV⟩, ⟨u2IV, v2IV, w2IV, qIV⟩, kIV⟩
  have bIV_ : Binds K (PySem.W.fnX "__init__" "InvalidBoard.__init__" (defArgs sIvB) (defBody sIvB) (defScope sIvB) [("__class__", yIV)] .none kVIV dcIV pmIV anIV (.ref xIV) ctIV) ["self", "reason"] [] := .all fun us hl => match us, hl with | [_, _], _ => rfl
  have FDI : FunS P K "__init__" "Driver.__init__" sDrvI fDI _ xDI yDI CD := ⟨⟨ocDI, odDI, kVDI, dcDI, pmDI, anDI, ctDI, slDI, rfl, lDI⟩, cDI, ⟨u1DI, v1DI, vsDI, w1DI, flDI, tfDI, mDI, nDI, pDI⟩, ⟨u2DI, v2DI, w2DI, qDI⟩, kDI⟩
  have bDI_ : Binds K (PySem.W.fnX "__init__" "Driver.__init__" (defArgs sDrvI) (defBody sDrvI) (defScope sDrvI) [("__class__", yDI)] .none kVDI dcDI pmDI anDI (.ref xDI) ctDI) ["self", "name"] [] := .all fun us hl => match us, hl with | [_, _], _ => rfl
  have FSI : FunS P K "__init__" "Listener.__init__" sLisI fSI _ xSI ySI CS := ⟨⟨ocSI, odSI, kVSI, dcSI, pmSI, anSI, ctSI, slSI, rfl, lSI⟩, cSI, ⟨u1SI, v1SI, vsSI, w1SI, flSI, tfSI, mSI, nSI, pSI⟩, ⟨u2SI, v2SI, w2SI, qSI⟩, kSI⟩
  have bSI_ : Binds K (PySem.W.fnX "__init__" "Listener.__init__" (defArgs sLisI) (defBody sLisI) (defScope sLisI) [("__class__", ySI)] .none kVSI dcSI pmSI anSI (.ref xSI) ctSI) ["self", "name"] [] := .all fun us hl => match us, hl with | [_, _], _ => rfl
  have FFI : FunD K "__init__" "Frame.__init__" (defArgs sFrI) (defBody sFrI) (defScope sFrI) [] kwsF fFI _ := ⟨⟨ocFI, odFI, _, _, dcFI, pmFI, anFI, cdFI, ctFI, slFI, rfl, lFI, cFI, .inl ⟨rfl, rfl⟩, .inr ⟨DFI, rfl, fun p hp => by
      rcases List.mem_cons.mp hp with rfl | hp
      · exact ⟨_, n1FI, r1FI⟩
      rcases List.mem_cons.mp hp with rfl | hp
      · exact ⟨_, n2FI, r2FI⟩
      obtain rfl := List.mem_singleton.mp hp
      exact ⟨_, n3FI, r3FI⟩⟩⟩, kFI⟩
  have FO : FunD K "of" "Frame.of" (defArgs sOf) (defBody sOf) (defScope sOf) [] kwsF fO _ := ⟨⟨ocO, odO, _, _, dcO, pmO, anO, cdO, ctO, slO, rfl, lO, cO, .inl ⟨rfl, rfl⟩, .inr ⟨DO, rfl, fun p hp => by
      rcases List.mem_cons.mp hp with rfl | hp
      · exact ⟨_, n1O, r1O⟩
      rcases List.mem_cons.mp hp with rfl | hp
      · exact ⟨_, n2O, r2O⟩
      obtain rfl := List.mem_singleton.mp hp
      exact ⟨_, n3O, r3O⟩⟩⟩, kO⟩
  have NT : NmT K mg := ⟨y_isinstance, y_str, y_len, y_all, ⟨tL, PySem.W.mg_of X G gLet⟩, ⟨tN, PySem.W.mg_of X G gLon⟩, ⟨aR, PySem.W.mg_of X G gRes, fun H => .inr ⟨_, itsR, nR, lRes, rfl, rfl, sRes, vRes⟩⟩⟩
  have suCI_ : SupT P K mg CI := ⟨top_, y_super, ⟨cdCI, clsCI⟩, third⟩
  have suCD_ : SupT P K mg CD := ⟨top_, y_super, ⟨cdCD, clsCD⟩, third⟩
  have suCS_ : SupT P K mg CS := ⟨top_, y_super, ⟨cdCS, clsCS⟩, third⟩
  have suCV_ : SupT P K mg CV := ⟨top_, y_super, ⟨cdCV, clsCV⟩, third⟩
  have OE : OexC K CI := ⟨⟨nm, q, Ns, bs, bm, sn, sub, ab, col, dd, k0, k1, k2, k3, k5, exL, exR⟩, exS, exB, exT, exK⟩
  have OV : OexC K CV := ⟨⟨nm2, q2, Ns2, bs2, bm2, sn2, sub2, ab2, col2, dd2, k02, k12, k22, k32, k52, vxL, vxR⟩, vxS, vxB, vxT, vxK⟩
  have EV : ExT P K mg CV "reason" := ⟨suCV_, OV, vxU, vxV, mrCV, vxN⟩
  have ET : ExT P K mg CI "reason" := ⟨suCI_, OE, exU, exV, mrCI, exN⟩
  have LT : LgT P K mg CI fIE fLI fN := ⟨ET, aIE, tIE, mCI, mN⟩
  have clCD : Cls K CD := ⟨pgCD, hdCD, poCD, saCD⟩
  have isCD : IsiC K CD := ⟨clCD, caCD, cn, ct, obCD⟩
  have clCS : Cls K CS := ⟨pgCS, hdCS, poCS, saCS⟩
  have isCS : IsiC K CS := ⟨clCS, caCS, cn, ct, obCS⟩
  have clCF : Cls K CF := ⟨pgCF, hdCF, poCF, saCF⟩
  have isCF : IsiC K CF := ⟨clCF, caCF, cn, ct, obCF⟩
  have clCB : Cls K CB := ⟨pgCB, hdCB, poCB, saCB⟩
  have isCB : IsiC K CB := ⟨clCB, caCB, cn, ct, obCB⟩
  have glCD : FnOk P w K mg base (L2.CX P w) 3 fLI _ ["self", "name"] (spLegI K CI CD) := ok_legI FLI LT NT ⟨clCD, nnCD⟩ FN bN_ FIE bIE_
  have glCS : FnOk P w K mg base (L2.CX P w) 3 fLI _ ["self", "name"] (spLegI K CI CS) := ok_legI FLI LT NT ⟨clCS, nnCS⟩ FN bN_ FIE bIE_
  have hD := ok_drvI FDI ⟨suCD_, suCD, tyLI, fnLI, mrCD⟩ bLI_ glCD
  have hS := ok_lisI FSI ⟨suCS_, suCS, tyLI, fnLI, mrCS⟩ bLI_ glCS
  let ks : Kinds := ⟨CD, CS, CL⟩
  have MD : MkL P w K mg base CI CD "Driver" := ⟨⟨fDI, _, ⟨mkCD, aDI, iDI, kcCD⟩, hD, bDI_⟩, mCD⟩
  have MS : MkL P w K mg base CI CS "Listener" := ⟨⟨fSI, _, ⟨mkCS, aSI, iSI, kcCS⟩, hS, bSI_⟩, mCS⟩
  have BI : Bi mg := ⟨y_int, y_len, y_abs⟩
  have gI : FnOk P w K mg base CX0 1 fIE _ ["self", "reason"] (spInv K CI) := ok_inv FIE ET
  have gII : FnOk P w K mg base CX0 1 fIi _ ["value"] (spIsInt K) := ok_isint FIi y_isinstance y_int y_bool
  have gBt : FnOk P w K mg base CX0 2 fBt _ ["value", "least", "most"] (spBetw K) := ok_betw FBt gII mIi kIi bIi_
  have WT : WrT P w K mg base ks CF := { isi := y_isinstance, all := y_all, len := y_len, bool := y_bool, mD := mCD, mI := mCS, mF := mCF, most := ⟨mcF, uM, ⟨rdF, gaF⟩, ⟨moF, rmF⟩⟩, icD := isCD, icI := isCS, nD := nnCD, nI := nnCS, dd := kdd, ii := kii, betw := ⟨fBt, _, mBt, kBt, bBt_, gBt⟩ }
  have gWr : FnOk P w K mg base CX0 3 fWr _ ["legs", "top", "ground", "power"] (spWrong K ks) := ok_wrong FWr WT
  have FT : FrT P w K mg base ks CI fIE CF := { wr := WT, sorted := y_sorted, mI := mCI, ex := ET, iC := aIE, tI := tIE, inv := ⟨_, bIE_, gI⟩, wrong := ⟨fWr, _, mWr, kWr, bWr_, gWr⟩, cl := clCF, nL := nf_legs, nT := nftop, nG := nfground, nP := nfpower }
  have kB := fr_kwB (w := w) (base := base) FFI FT
  have MF : Mk K CF fFI := ⟨mkCF, aFI, iFI, kcCF⟩
  have OT : OfT P w K mg base ks CI fIE CF fFI := { isi := y_isinstance, list := y_list, tuple := y_tuple, mI := mCI, ex := ET, iC := aIE, tI := tIE, inv := ⟨_, bIE_, gI⟩, mkc := MF, kt := klt, kt2 := ktt }
  have gO := ok_of FO OT kB
  have gDr : FnOk P w K mg base CX0 1 fDr _ ["_law_pen_here", "_law_many"] spDraw := ok_draw FDr BI
  have DW : DwT P w K mg base := { bi := BI, sorted := y_sorted, draw := ⟨fDr, _, mDr, kDr, bDr_, gDr⟩, pick := ⟨fPk, _, mPk, kPk, bPk_, ok_pick FPk BI FDr bDr_ mDr⟩, tags := ⟨fTg, _, mTg, kTg, bTg_, ok_tags FTg BI y_range FDr bDr_ mDr⟩ }
  have CR : ClX.CRead K CF mcF := ⟨rdF, gaF⟩
  have CMf : ClX.CMet K CF mcF "of" pO fO := ⟨aO, ⟨rsO, rO⟩, fO_⟩
  have TK : FkT P w K mg base ks CI CF := { d := MD, i := MS, mF := mCF, of := ⟨mcF, pO, fO, CR, CMf, of_kwB FO gO⟩ }
  have two : ∀ {R : Addr → Prop}, R CD → R CS → ∀ C, (C = CD ∨ C = CS) → R C := by
    rintro R a b C (rfl | rfl)
    · exact a
    · exact b
  have dvD : PropN P w K mg base 1 CD "drives" (spDr CD (decide (CD = CD))) := ⟨clCD, pDvD, fDvD, _, ⟨aDvD, bDvD, dDvD, _, eDvD⟩, by rw [decide_eq_true rfl]; exact ok_drives FDvD rfl rfl, bDvD_⟩
  have dvS : PropN P w K mg base 1 CS "drives" (spDr CS (decide (CS = CD))) := ⟨clCS, pDvS, fDvS, _, ⟨aDvS, bDvS, dDvS, _, eDvS⟩, by rw [decide_eq_false (Ne.symm neDS)]; exact ok_drives FDvS rfl rfl, bDvS_⟩
  have DV : ∀ C, (C = ks.drv ∨ C = ks.lis) → PropN P w K mg base 1 C "drives" (spDr C (decide (C = ks.drv))) := two dvD dvS
  have FP : FpT P w K mg base ks CF := { cl := clCF, nL := nf_legs, nG := nfground, nP := nfpower, tuple := y_tuple, sorted := y_sorted, dv := DV }
  have pRa : PropN P w K mg base 1 CF "rails" (spTup ks CF fun d => railsZ d.g d.r) := ⟨clCF, pgR, fgR, _, ⟨agR, bgR, dgR, _, egR⟩, ok_frails FgR FP, bgR_⟩
  have pNm : PropN P w K mg base 1 CF "names" (spTup ks CF fun d => names d.ys) := ⟨clCF, pgN, fgN, _, ⟨agN, bgN, dgN, _, egN⟩, ok_fnames FgN FP, bgN_⟩
  have pMe : PropN P w K mg base 3 CF "members" (spMem ks CF) := ⟨clCF, pgM, fgM, _, ⟨agM, bgM, dgM, _, egM⟩, ok_fmem FgM FP pNm pRa, bgM_⟩
  have FM : FmT K mg CF := ⟨clCF, nf_legs, y_len, y_isinstance, y_str⟩
  have tIn : MetN P w K mg base CX0 1 CF "__contains__" ["self", "x"] (spFIs K ks CF) := ⟨fmC, _, amC, imC, jmC, ⟨fun vs H Q E q => (ok_fin (P := P) (w := w) (mg := mg) (base := base) FmC FM).len vs H Q E (spFIs_of q), fun A outer s H args us vs Q E hr he hb hv hs => (ok_fin (P := P) (w := w) (mg := mg) (base := base) FmC FM).run A outer s H args us vs Q E hr he hb hv (spFIs_of hs)⟩, bmC_⟩
  have kG := fr_kwG (w := w) (base := base) FFI FT
  have KV : KeT K CV := ⟨by rw [clsCV]; rfl, gaV, ggV, vxB, hdV, caV, cn, ct, obV⟩
  -- boards
  have gIm : FnOk P w K mg base CX0 3 fIm _ ["frame", "value"] (spIsM K ks CF) := ok_ism FIm ⟨tIn, pRa⟩
  have IM : ∃ f fd, mg "is_member" = some (.ref f) ∧ PySem.W.keepIn K (.ref f) = true ∧ Binds K fd ["frame", "value"] [] ∧ FnOk P w K mg base CX0 3 f fd ["frame", "value"] (spIsM K ks CF) := ⟨fIm, _, mIm, kIm, bIm_, gIm⟩
  have WB_ : WbT P w K mg base ks CF := { ism := IM, isi := y_isinstance, all := y_all, any := y_any, len := y_len, set := y_set, list := y_list, tuple := y_tuple, kl := klt, kt := ktt }
  have gWb : FnOk P w K mg base CX0 4 fWb _ ["frame", "blocks"] (spWb K ks CF) := ok_wb FWb WB_
  have gWbA : FnOk P w K mg base CX0 4 fWb _ ["frame", "blocks"] (spWbA ks CF) := ok_wbA FWb WB_
  have gV : FnOk P w K mg base CX0 1 fIV _ ["self", "reason"] (spInv K CV) := ok_ivb FIV EV
  have BT : BoT P w K mg base ks CF CV fIV CB := { wrong := ⟨fWb, _, mWb, kWb, bWb_, gWb⟩, mem := pMe, mI := mCV, ex := EV, iC := aIV, tI := tIV, inv := ⟨_, bIV_, gV⟩, sorted := y_sorted, tuple := y_tuple, cl := clCB, nF := nbframe, nB := nb_blocks, nH := nb_homes }
  have BS := fnr_boA FbI (show BoA P w K mg base ks CF CV fIV CB from { bo := BT, wrong := ⟨fWb, _, mWb, kWb, bWb_, gWbA⟩ })
  have MB : Mk K CB fbI := ⟨mkCB, abI, ibI, kcCB⟩
  have OB : BofT P w K mg base CV fIV CB fbI := { isi := y_isinstance, list := y_list, tuple := y_tuple, mI := mCV, ex := EV, iC := aIV, tI := tIV, inv := ⟨_, bIV_, gV⟩, mkc := MB, kt := klt, kt2 := ktt }
  have gBO := ok_bofA FbO OB BS
  -- the law's own
  have DR : Fi P w K mg base "_law_draw" 1 ["_law_pen_here", "_law_many"] spDraw := ⟨fDr, _, mDr, kDr, bDr_, gDr⟩
  have PK : Fi P w K mg base "_law_pick" 2 ["_law_pen_here", "_law_some"] spPick := ⟨fPk, _, mPk, kPk, bPk_, ok_pick FPk BI FDr bDr_ mDr⟩
  have gLg : FnOk P w K mg base CX0 1 fLg _ ["_law_bare_here"] spLgs := ok_lgs FLg y_sorted
  have gMm : FnOk P w K mg base CX0 2 fMm _ ["_law_bare_here"] spMms := ok_mms FMm y_sorted mLg kLg bLg_ gLg
  have MM : Fi P w K mg base "_law_members" 2 ["_law_bare_here"] spMms := ⟨fMm, _, mMm, kMm, bMm_, gMm⟩
  have OD : Fi P w K mg base "_law_odd" 3 ["_law_pen_here"] spOdd := ⟨fOd, _, mOd, kOd, bOd_, ok_odd FOd DW⟩
  have PR : PaT P w K mg base := { dw := DW, mms := ⟨fMm, _, mMm, kMm, bMm_, gMm⟩, len := y_len }
  have gBe := ok_ben FBe { draw := DR, pick := PK, odd := OD, mms := MM, len := y_len, isi := y_isinstance, list := y_list }
  have gDu := ok_due FDu { mms := MM, isi := y_isinstance, list := y_list, tuple := y_tuple, len := y_len, range := y_range }
  have HET : HeT K mg CJ CV := { mJ := mCJ, mI := mCV, mV := y_ValueError, isi := y_isinstance, ex := exVJ, ke := KV, no := vxN, ii := kiVV, iv := kiVE }
  have L : L10T P w K mg base ks CF CI CV CB CJ fbO fbI fFI := { pen := ⟨fPn, _, mPn, kPn, bPn_, ok_pen FPn y_list⟩, draw := DR, pick := PK, bare := ⟨fBa, _, mBa, kBa, bBa_, ok_bare FBa DW⟩, frm := ⟨fFm, _, mFm, kFm, bFm_, ok_frm FFm TK⟩, par := ⟨fPa, _, mPa, kPa, bPa_, ok_par FPa PR⟩, ben := ⟨fBe, _, mBe, kBe, bBe_, gBe⟩, due := ⟨fDu, _, mDu, kDu, bDu_, gDu⟩, he := ⟨fHe, _, mHe, FHe, bHe_⟩, ht := HET, mB := mCB, cls := ⟨mcB, pbO, ⟨rdB, gaB⟩, ⟨abO, ⟨rsbO, rbO⟩, jbO⟩⟩, of0 := bo_of0A FbO gBO, ofK := bo_ofKA FbO gBO, mkB := MB, boS := BS, d := MD, ne := neDS, mkF := MF, frG := kG, mF := mCF, list := y_list, tuple := y_tuple, range := y_range, isi := y_isinstance, repr := y_repr }
  exact at_law lLw cLw_ (fun s u => .of_eq rfl) L TBL
end Sj
open PySem PySem.W PyProof.Rows in
set_option maxRecDepth 100000 in
set_option maxHeartbeats 0 in
theorem PySem.Challenge.cw_strayjoins_k10_boards_refused_holds : PySem.Challenge.rw_strayjoins_k10_boards_refused.Holds := by
  w_on; o_law; k_head; (case hw => w_witness2)
  k_fill
  refine Sup.walk_atT (l := PySem.Challenge.rw_strayjoins_k10_boards_refused) (sp := Sj.spLaw10) rfl (by decide) rfl (by decide +kernel) (fun w h Y => PySem.W.km_in_of Y) ?F ?W
  case W => exact fun K Pt H a ns hl hP hS => ⟨a, ns, rfl, hS, hl, fun p hp => by rw [List.mem_singleton.mp hp]; exact LamX.TabS.nil hP, fun _ => rfl⟩
  case F =>
    intro w mg f h KX G hmg own
    refine' Sj.all_mk10 KX G hmg own ?gCI ?gCL ?gCD ?gCS ?gCF ?gCB ?gCV ?gCJ ?gLet ?gLon ?gRes ?lRes ?sRes ?vRes ?z_ValueError ?z_any ?z_set ?z_isinstance ?z_str ?z_len ?z_all ?z_bool ?z_int ?z_abs ?z_range ?z_list ?z_tuple ?z_sorted ?z_super ?z_repr ?tyB ?rdB ?gaB ?aN ?lN ?cN ?kN ?aIi ?lIi ?cIi ?kIi ?aBt ?lBt ?cBt ?kBt ?aWr ?lWr ?cWr ?kWr ?aLI ?iLI ?lLI ?cLI ?kLI ?aPn ?lPn ?cPn ?kPn ?aDr ?lDr ?cDr ?kDr ?aPk ?lPk ?cPk ?kPk ?aTg ?lTg ?cTg ?kTg ?aBa ?lBa ?cBa ?kBa ?aFm ?lFm ?cFm ?kFm ?aLg ?lLg ?cLg ?kLg ?aMm ?lMm ?cMm ?kMm ?aOd ?lOd ?cOd ?kOd ?aIm ?lIm ?cIm ?kIm ?aWb ?lWb ?cWb ?kWb ?aPa ?lPa ?cPa ?kPa ?aBe ?lBe ?cBe ?kBe ?aDu ?lDu ?cDu ?kDu ?aHe ?lHe ?cHe ?kHe ?agN ?bgN ?dgN ?egN ?lgN ?cgN ?kgN ?agR ?bgR ?dgR ?egR ?lgR ?cgR ?kgR ?agM ?bgM ?dgM ?egM ?lgM ?cgM ?kgM ?amC ?imC ?jmC ?lmC ?cmC ?kmC ?aDvD ?bDvD ?dDvD ?eDvD ?lDvD ?cDvD ?kDvD ?aDvS ?bDvS ?dDvS ?eDvS ?lDvS ?cDvS ?kDvS ?abI ?ibI ?lbI ?cbI ?kbI ?abO ?rbO ?jbO ?lbO ?cbO ?kbO ?aFI ?iFI ?lFI ?cFI ?kFI ?n1FI ?r1FI ?n2FI ?r2FI ?n3FI ?r3FI ?tyF ?rdF ?gaF ?moF ?rmF ?aO ?rO ?fO_ ?lO ?cO ?kO ?n1O ?r1O ?n2O ?r2O ?n3O ?r3O ?aIE ?iIE ?tIE ?lIE ?cIE ?mIE ?nIE ?pIE ?qIE ?kIE ?aIV ?iIV ?tIV ?lIV ?cIV ?mIV ?nIV ?pIV ?qIV ?kIV ?aDI ?iDI ?tDI ?lDI ?cDI ?mDI ?nDI ?pDI ?qDI ?kDI ?aSI ?iSI ?tSI ?lSI ?cSI ?mSI ?nSI ?pSI ?qSI ?kSI ?top_ ?third ?clsCI ?mrCI ?clsCD ?mrCD ?clsCS ?mrCS ?clsCL ?mrCL ?clsCV ?mrCV ?exL ?exR ?exS ?exB ?exV ?exT ?exK ?exN ?exU ?vxL ?vxR ?vxS ?vxB ?vxV ?vxT ?vxK ?vxN ?vxU ?exVJ ?kiVV ?kiVE ?gaV ?ggV ?hdV ?caV ?obV ?fnLI ?tyLI ?suCD ?suCS ?pgCD ?hdCD ?poCD ?saCD ?mkCD ?kcCD ?caCD ?obCD ?nnCD ?pgCS ?hdCS ?poCS ?saCS ?mkCS ?kcCS ?caCS ?obCS ?nnCS ?pgCF ?hdCF ?poCF ?saCF ?mkCF ?kcCF ?caCF ?obCF ?pgCB ?hdCB ?poCB ?saCB ?mkCB ?kcCB ?caCB ?obCB ?nbframe ?nb_blocks ?nb_homes ?nf_legs ?nftop ?nfground ?nfpower ?cn ?ct ?kdd ?kii ?klt ?ktt ?neDS ?aLw ?lLw ?cLw_ ?oLw ?vLw ?hLw ?tLw_
    case gCI => k_is
    case gCL => k_is
    case gCD => k_is
    case gCS => k_is
    case gCF => k_is
    case gCB => k_is
    case gCV => k_is
    case gCJ => k_is
    case gLet => k_is
    case gLon => k_is
    case gRes => k_is
    case lRes => k_is
    case sRes => decide
    case vRes => exact .cons ⟨_, rfl⟩ (.cons ⟨_, rfl⟩ (.cons ⟨_, rfl⟩ .nil))
    case z_ValueError => k_is
    case z_any => k_is
    case z_set => k_is
    case z_isinstance => k_is
    case z_str => k_is
    case z_len => k_is
    case z_all => k_is
    case z_bool => k_is
    case z_int => k_is
    case z_abs => k_is
    case z_range => k_is
    case z_list => k_is
    case z_tuple => k_is
    case z_sorted => k_is
    case z_super => k_is
    case z_repr => k_is
    case tyB => k_is
    case rdB => k_is
    case gaB => k_is
    case aN => k_is
    case lN => k_is
    case cN => k_is
    case kN => k_is
    case aIi => k_is
    case lIi => k_is
    case cIi => k_is
    case kIi => k_is
    case aBt => k_is
    case lBt => k_is
    case cBt => k_is
    case kBt => k_is
    case aWr => k_is
    case lWr => k_is
    case cWr => k_is
    case kWr => k_is
    case aLI => k_is
    case iLI => k_is
    case lLI => k_is
    case cLI => k_is
    case kLI => k_is
    case aPn => k_is
    case lPn => k_is
    case cPn => k_is
    case kPn => k_is
    case aDr => k_is
    case lDr => k_is
    case cDr => k_is
    case kDr => k_is
    case aPk => k_is
    case lPk => k_is
    case cPk => k_is
    case kPk => k_is
    case aTg => k_is
    case lTg => k_is
    case cTg => k_is
    case kTg => k_is
    case aBa => k_is
    case lBa => k_is
    case cBa => k_is
    case kBa => k_is
    case aFm => k_is
    case lFm => k_is
    case cFm => k_is
    case kFm => k_is
    case aLg => k_is
    case lLg => k_is
    case cLg => k_is
    case kLg => k_is
    case aMm => k_is
    case lMm => k_is
    case cMm => k_is
    case kMm => k_is
    case aOd => k_is
    case lOd => k_is
    case cOd => k_is
    case kOd => k_is
    case aIm => k_is
    case lIm => k_is
    case cIm => k_is
    case kIm => k_is
    case aWb => k_is
    case lWb => k_is
    case cWb => k_is
    case kWb => k_is
    case aPa => k_is
    case lPa => k_is
    case cPa => k_is
    case kPa => k_is
    case aBe => k_is
    case lBe => k_is
    case cBe => k_is
    case kBe => k_is
    case aDu => k_is
    case lDu => k_is
    case cDu => k_is
    case kDu => k_is
    case aHe => k_is
    case lHe => k_is
    case cHe => k_is
    case kHe => k_is
    case agN => k_is
    case bgN => k_is
    case dgN => k_is
    case egN => k_is
    case lgN => k_is
    case cgN => k_is
    case kgN => k_is
    case agR => k_is
    case bgR => k_is
    case dgR => k_is
    case egR => k_is
    case lgR => k_is
    case cgR => k_is
    case kgR => k_is
    case agM => k_is
    case bgM => k_is
    case dgM => k_is
    case egM => k_is
    case lgM => k_is
    case cgM => k_is
    case kgM => k_is
    case amC => k_is
    case imC => k_is
    case jmC => k_is
    case lmC => k_is
    case cmC => k_is
    case kmC => k_is
    case aDvD => k_is
    case bDvD => k_is
    case dDvD => k_is
    case eDvD => k_is
    case lDvD => k_is
    case cDvD => k_is
    case kDvD => k_is
    case aDvS => k_is
    case bDvS => k_is
    case dDvS => k_is
    case eDvS => k_is
    case lDvS => k_is
    case cDvS => k_is
    case kDvS => k_is
    case abI => k_is
    case ibI => k_is
    case lbI => k_is
    case cbI => k_is
    case kbI => k_is
    case abO => k_is
    case rbO => k_is
    case jbO => k_is
    case lbO => k_is
    case cbO => k_is
    case kbO => k_is
    case aFI => k_is
    case iFI => k_is
    case lFI => k_is
    case cFI => k_is
    case kFI => k_is
    case n1FI => k_is
    case r1FI => exact ⟨_, rfl⟩
    case n2FI => k_is
    case r2FI => rfl
    case n3FI => k_is
    case r3FI => rfl
    case tyF => k_is
    case rdF => k_is
    case gaF => k_is
    case moF => k_is
    case rmF => exact ⟨_, rfl⟩
    case aO => k_is
    case rO => k_is
    case fO_ => k_is
    case lO => k_is
    case cO => k_is
    case kO => k_is
    case n1O => k_is
    case r1O => exact ⟨_, rfl⟩
    case n2O => k_is
    case r2O => rfl
    case n3O => k_is
    case r3O => rfl
    case aIE => k_is
    case iIE => k_is
    case tIE => k_is
    case lIE => k_is
    case cIE => k_is
    case mIE => k_is
    case nIE => rfl
    case pIE => first | rfl | decide +kernel
    case qIE => k_is
    case kIE => k_is
    case aIV => k_is
    case iIV => k_is
    case tIV => k_is
    case lIV => k_is
    case cIV => k_is
    case mIV => k_is
    case nIV => rfl
    case pIV => first | rfl | decide +kernel
    case qIV => k_is
    case kIV => k_is
    case aDI => k_is
    case iDI => k_is
    case tDI => k_is
    case lDI => k_is
    case cDI => k_is
    case mDI => k_is
    case nDI => rfl
    case pDI => first | rfl | decide +kernel
    case qDI => k_is
    case kDI => k_is
    case aSI => k_is
    case iSI => k_is
    case tSI => k_is
    case lSI => k_is
    case cSI => k_is
    case mSI => k_is
    case nSI => rfl
    case pSI => first | rfl | decide +kernel
    case qSI => k_is
    case kSI => k_is
    case top_ => first | rfl | decide +kernel
    case third => k_is
    case clsCI => k_is
    case mrCI => k_is
    case clsCD => k_is
    case mrCD => k_is
    case clsCS => k_is
    case mrCS => k_is
    case clsCL => k_is
    case mrCL => k_is
    case clsCV => k_is
    case mrCV => k_is
    case exL => k_is
    case exR => decide +kernel
    case exS => k_is
    case exB => k_is
    case exV => k_is
    case exT => k_is
    case exK => k_is
    case exN => k_is
    case exU => kernel_rfl
    case vxL => k_is
    case vxR => decide +kernel
    case vxS => k_is
    case vxB => k_is
    case vxV => k_is
    case vxT => k_is
    case vxK => k_is
    case vxN => k_is
    case vxU => kernel_rfl
    case exVJ => kernel_rfl
    case kiVV => kernel_rfl
    case kiVE => kernel_rfl
    case gaV => k_is
    case ggV => k_is
    case hdV => k_is
    case caV => k_is
    case obV => k_is
    case fnLI => k_is
    case tyLI => k_is
    case suCD => kernel_rfl
    case suCS => kernel_rfl
    case pgCD => k_is
    case hdCD => k_is
    case poCD => k_is
    case saCD => k_is
    case mkCD => k_is
    case kcCD => k_is
    case caCD => k_is
    case obCD => k_is
    case nnCD => k_is
    case pgCS => k_is
    case hdCS => k_is
    case poCS => k_is
    case saCS => k_is
    case mkCS => k_is
    case kcCS => k_is
    case caCS => k_is
    case obCS => k_is
    case nnCS => k_is
    case pgCF => k_is
    case hdCF => k_is
    case poCF => k_is
    case saCF => k_is
    case mkCF => k_is
    case kcCF => k_is
    case caCF => k_is
    case obCF => k_is
    case pgCB => k_is
    case hdCB => k_is
    case poCB => k_is
    case saCB => k_is
    case mkCB => k_is
    case kcCB => k_is
    case caCB => k_is
    case obCB => k_is
    case nbframe => k_is
    case nb_blocks => k_is
    case nb_homes => k_is
    case nf_legs => k_is
    case nftop => k_is
    case nfground => k_is
    case nfpower => k_is
    case cn => k_is
    case ct => k_is
    case kdd => kernel_rfl
    case kii => kernel_rfl
    case klt => kernel_rfl
    case ktt => kernel_rfl
    case neDS => decide
    case aLw => k_is
    case lLw => k_is
    case cLw_ => k_is
    case oLw => k_is
    case vLw => rfl
    case hLw => kernel_rfl
    case tLw_ => kernel_rfl
