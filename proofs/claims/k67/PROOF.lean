import PyProof.Rows.All
import Wide.All
import OpenK.AllK
import Wide.FinOn
import KE.KNestM
import HandS.Head2
import HandS.Lambda
import KE.KSuper
import HandS.ForMost
import HandS.Codes
import HandS.Nested
import KE.KExcSuper
import HandS.Exc
import HandS.ExcInit
import HandS.FStr
import HandS.WordsExc
import HandS.ExcOwn
import HandS.TryOnly
import HandS.IsInst
import HandS.MakeKw
import HandS.MakeKwOnly
import HandS.Property
import HandS.ClsMeth
import HandS.RaiseMore
import HandS.Walk
import PyProof.ReprRoads
import KE.KCallOwn
import HandS.SetBool
import HandS.SetKeys
import HandS.DictComp
import HandS.Star
import HandS.MethStar
import HandS.CallLocal
import HandS.WordsList
import HandS.More
import HandS.WordsDict
import HandS.Conv
import HandS.Iter
import HandS.DictEq
import HandS.OwnEq
import KE.KDictSum
import PyProof.TupleOfSeq
import HandS.TupAny
import KE.KExcInit
import HandS.ExcField
import HandS.ExcIs
import HandS.ExcValue
import KE.KExcIs
import PyProof.Rows.SortStr
import HandS.BoundList
import PyProof.ReprBulk
import KE.KOpsOwn
import KE.KParD
import HandS.Words
import HandS.Style
import KE.KFmtOwn
import KE.KTupTruth
import HandS.Flow
import HandS.Deep
import HandS.ListItems
import HandS.Strs
import HandS.SetFor
import HandS.Zip
import KE.GoesMore
import KE.KSortTupG
import HandS.EndTab
import HandS.EndOwn
import PySem.Challenge.RW_strayjoins_k67_words_arrived_and_hurt_li
set_option Elab.async false
set_option linter.all false
set_option maxRecDepth 100000
set_option maxHeartbeats 8000000
/-! The head of a law by runs of the kernel, what is looked at behind the top shared out among several runs (a declaration each); for the Hook with tables -/
namespace Hdt
open PySem PySem.W PySem.Calls PyProof.Rows HandSHeadRun
/-- what one run shows -/
def Ob {α : Type} (p : Program) (M : Nat) (f : World → SharedT → α) (v : World → α) : Prop := ∀ (w : World) (os : OsState), (endF (stepQ (denQ tabQ) p w) M p w os).map (f w) = some (v w)
section
variable {α β : Type} {p : Program} {M : Nat} {f : World → SharedT → α} {g : World → SharedT → β} {a : World → α} {b : World → β}
theorem Ob.at_ (h : Ob p M f a) {w : World} {os : OsState} {s : SharedT} (e : endF (stepQ (denQ tabQ) p w) M p w os = some s) : f w s = a w := by
  have z := h w os
  rw [e] at z
  exact Option.some.inj z
theorem Ob.one (h : Ob p M (fun w s => (f w s, g w s)) (fun w => (a w, b w))) : Ob p M f a := fun w os => by
  have z := h w os
  cases e : endF (stepQ (denQ tabQ) p w) M p w os with
  | none => rw [e] at z; cases z
  | some s =>
    rw [e] at z
    exact congrArg some (Prod.mk.inj (Option.some.inj z)).1
theorem Ob.two (h : Ob p M (fun w s => (f w s, g w s)) (fun w => (a w, b w))) : Ob p M g b := fun w os => by
  have z := h w os
  cases e : endF (stepQ (denQ tabQ) p w) M p w os with
  | none => rw [e] at z; cases z
  | some s =>
    rw [e] at z
    exact congrArg some (Prod.mk.inj (Option.some.inj z)).2
end
/-- what the Hook with tables looks at, off the tree -/
def obT (as ts : List Addr) (s : SharedT) : List (Option Obj) × List (Option Obj) := (as.map (getT s), ts.map (getT s))
theorem obT_eq {K : Params → Frag} {as ts : List Addr} (ek : ∀ P, as = (K P).map (·.1)) (s : SharedT) : obT as ts s = (kmHook K as ek ts).obs s.abs := by
  have eo : ∀ l : List Addr, l.map (getT s) = l.map s.abs.heap.get? := fun l => List.map_congr_left fun a _ => getT_eq s a
  show (_, _) = (_, _)
  rw [eo, eo]
noncomputable abbrev sQ (r : OpenRow) (q : Program) (loose : List PySem.Str) (s : SharedT) := seenQ q loose (importedModules r.prog.main.body) (fun s => xlAt q [] s && recOk r.toRowW.records s) s.abs
theorem run_eq {r : OpenRow} {q : Program} {loose : List PySem.Str} {K : Params → Frag} {as ts : List Addr} (ek : ∀ P, as = (K P).map (·.1)) {M : Nat}
    (hk : Ob r.prog M (fun _ s => as.map (getT s)) (fun w => (K w.params).map fun x => some x.2))
    (h0 : Ob r.prog M (fun w s => (looksF r.prog (boot_heap w.params) s.abs, ts.map (getT s))) (fun _ => (true, ts.map fun _ => some (tabObj #[]))))
    (h1 : Ob r.prog M (fun _ s => (sQ r q loose s).1) (fun _ => expectedOf q)) (h2 : Ob r.prog M (fun _ s => (sQ r q loose s).2.1) (fun _ => bltViewBooted))
    (h3 : Ob r.prog M (fun _ s => (sQ r q loose s).2.2.1) (fun _ => true)) (h4 : Ob r.prog M (fun _ s => (sQ r q loose s).2.2.2.1) (fun _ => true))
    (h5 : Ob r.prog M (fun _ s => (sQ r q loose s).2.2.2.2.1) (fun _ => pinGoodD (drecsOf q))) (h6 : Ob r.prog M (fun _ s => (sQ r q loose s).2.2.2.2.2.1) (fun _ => plainGoodE q (looseW q loose)))
    (h7 : Ob r.prog M (fun _ s => (sQ r q loose s).2.2.2.2.2.2) (fun _ => (plainGoodD q loose, wideGood q, clsGoodW q loose))) (w : World) : RunEq r q (kmHook K as ek ts) (obT as ts) M loose w := by
  intro os
  cases es : endF (stepQ (denQ tabQ) r.prog w) M r.prog w os with
  | none =>
    have z := h0 w os
    rw [es] at z
    cases z
  | some s =>
    have e0 := Prod.mk.inj (h0.at_ es)
    show some (_, _, _) = some _
    refine congrArg some (Prod.ext e0.1 (Prod.ext ?_ (Prod.ext ?_ ?_)))
    · exact Prod.ext (h1.at_ es) (Prod.ext (h2.at_ es) (Prod.ext (h3.at_ es) (Prod.ext (h4.at_ es) (Prod.ext (h5.at_ es) (Prod.ext (h6.at_ es) (h7.at_ es))))))
    · exact hk.at_ es
    · exact e0.2
end Hdt
namespace Hd
open Hdt HandSHeadRun PySem.Calls
open PySem PySem.W PyProof.Rows
abbrev R : OpenRow := OpenLaw.row PySem.Challenge.rw_strayjoins_k67_words_arrived_and_hurt_li
set_option hygiene false in
local macro_rules | `(tactic| o_head ($f $k $a $e $t)) => `(tactic| (exact hh; exact $k; exact $a; exact $t))
set_option maxHeartbeats 0 in
noncomputable def cap : {x : (Params → Frag) × List Addr × List Addr // OpenRow.Holds R → OpenRow.Holds R} := by
  refine ⟨(?kk, ?aa, ?tt), fun hh => ?h⟩
  rotate_left 3
  km_head
noncomputable abbrev K : Params → Frag := Hd.cap.heap_1
noncomputable abbrev as : List Addr := cap.1.2.1
noncomputable abbrev ts : List Addr := cap.1.2.2
def keep : List Nat := [0, 2, 3, 4, 5, 6, 7, 8, 9, 11, 12, 13, 14, 15, 16, 18, 19, 20, 22, 23, 24, 25, 27, 28, 29, 31, 32, 33, 35, 36, 37, 38, 39, 41, 43, 44, 46, 47, 48, 49, 50, 52, 53, 54, 55, 56, 57, 58, 59, 60, 61, 62, 63, 64, 65, 66, 67, 68, 69]
abbrev q : Program := view R.prog keep
abbrev loose : List PySem.Str := ["Leg", "Driver", "Listener", "Frame", "Word", "Chain", "Hurt", "Bench", "Board"]
abbrev M : Nat := 9659
theorem ek : ∀ P, as = (K P).map (·.1) := fun _ => by kernel_rfl
theorem t1 : Ob R.prog M (fun w s => (as.map (getT s), ((looksF R.prog (boot_heap w.params) s.abs, ts.map (getT s)), ((sQ R q loose s).2.1, (sQ R q loose s).2.2.2.2.1)))) (fun w => ((K w.params).map fun x => some x.2, ((true, ts.map fun _ => some (tabObj #[])), (bltViewBooted, pinGoodD (drecsOf q))))) := by intro w os; kernel_rfl
theorem t2 : Ob R.prog M (fun _ s => ((sQ R q loose s).1, (sQ R q loose s).2.2.1)) (fun _ => (expectedOf q, true)) := by intro w os; kernel_rfl
theorem t3 : Ob R.prog M (fun _ s => ((sQ R q loose s).2.2.2.1, (sQ R q loose s).2.2.2.2.2.2)) (fun _ => (true, (plainGoodD q loose, wideGood q, clsGoodW q loose))) := by intro w os; kernel_rfl
theorem t4 : Ob R.prog M (fun _ s => (sQ R q loose s).2.2.2.2.2.1) (fun _ => plainGoodE q (looseW q loose)) := by intro w os; kernel_rfl
theorem run (w : World) : RunEq R q (kmHook K as ek ts) (obT as ts) M loose w := run_eq ek t1.one t1.two.one t2.one t1.two.two.one t2.two t3.one t1.two.two.two t4 t3.two w
end Hd
namespace Sup
open PySem PySem.Spec PyProof.Rows L2
open NdefX (NF NScope ncx envF startF CellsAt inv_startN)
/-! ### a def of a class body that says super(): it closes over the class -/
structure FunS (P : Program) (K : PySem.W.Frag) (x qual : Str) (st : Stmt) (f : Addr) (fd : FuncData) (c cc D : Addr) : Prop where
  ex : ∃ (oc : Value) (od : Option Addr) (kV doc pm : Value) (an : Option Addr) (ct : Value) (osl : Array (Option Value)),
    fd = PySem.W.fnX x qual (defArgs st) (defBody st) (defScope st) [("__class__", cc)] .none kV doc pm an (.ref c) ct ∧ K.lookup f = some ⟨oc, od, .func fd, osl⟩
  cd : PySem.W.codeIn K (.ref c) qual = true
  file : ∃ (ccl : Value) (cdd : Option Addr) (vs : Array Value) (ccs : Array (Option Value)) (fl : Str) (tf : Tok), K.lookup c = some ⟨ccl, cdd, .fields vs, ccs⟩ ∧ vs[2]? = some (.str fl tf) ∧ ((P.main.file : Str) == fl) = true
  cell : ∃ (cl : Value) (cld : Option Addr) (csl : Array (Option Value)), K.lookup cc = some ⟨cl, cld, .cell (some (.ref D)), csl⟩
  kp : PySem.W.keepIn K (.ref f) = true
def nf (x qual : Str) (st : Stmt) (c cc : Addr) : NF := ⟨x, qual, defArgs st, defBody st, defScope st, [("__class__", cc)], c⟩
section
variable {P : Program} {w : World} {K : PySem.W.Frag} {mg : Str → Option Value} {base : Heap} {CX : CXT} {x qual : Str} {st : Stmt} {f c cc D : Addr} {fd : FuncData} {N ps : List Str} {k : Nat} {sp : Sp}
theorem fn_super (F : FunS P K x qual st f fd c cc D) (S : NScope N ps ["__class__"] (defScope st)) (len : ∀ vs H Q E, sp vs H Q E → vs.length = ps.length)
    (hbody : ∀ (A : Around) (outer : List Env) (s : Shared) (H : Hp) (vs : List V) (Q : VK) (E : XK), Room k (A.deeper (envF (nf x qual st c cc) f s.heap.objs.size)) → sp vs H Q E → ∀ s1,
      Inv (ncx CX P w K mg base N (nf x qual st c cc) f A outer s H E) [] (startF N vs [some (.ref D)]) H s1 →
      PySem.wpAt (model P w) (A.deeper (envF (nf x qual st c cc) f s.heap.objs.size)) (.func (defBody st) (envF (nf x qual st c cc) f s.heap.objs.size)) (execs (defBody st) (envF (nf x qual st c cc) f s.heap.objs.size))
        (SP (ncx CX P w K mg base N (nf x qual st c cc) f A outer s H E) [] { nx := fun _ H' => Q .non H', rt := Q }) (ncx CX P w K mg base N (nf x qual st c cc) f A outer s H E).xe s1) :
    FnOk P w K mg base CX (k + 1) f fd ps sp := by
  obtain ⟨oc, od, kV, doc, pm, an, ct, osl, rfl, lk⟩ := F.ex
  obtain ⟨cl, cld, csl, lc⟩ := F.cell
  refine ⟨len, fun A outer s H args us vs Q E hr e0 hb r hsp => ?_⟩
  have hl := len _ _ _ _ hsp
  have KX : K.In s.heap := e0.mod.kin.keeps fun b o e => (e0.bs b o e).1
  have lim : s.heap.NoLimit := e0.mod.nolimit.keeps fun b o e => (e0.bs b o e).1
  have hcc : s.heap.get? cc = some ⟨cl, cld, .cell (some (.ref D)), csl⟩ := KX _ _ lc
  have C : CellsAt (nf x qual st c cc).cl ["__class__"] [some (V.ref D)] s.heap H := by
    refine ⟨rfl, fun y b e => ?_, fun a b q h1 h2 => ?_, fun i y hy => ?_⟩
    · have e : (if y == "__class__" then some cc else none) = some b := by
        have q : List.lookup y [(("__class__" : Str), cc)] = some b := e
        rw [List.lookup_cons] at q
        cases z : y == ("__class__" : Str) with
        | true => rw [z] at q; rw [if_pos rfl]; exact q
        | false => rw [z] at q; cases q
      split at e
      · cases e
        exact ⟨(e0.bs _ _ (e0.mod.kin _ _ lc)).2, _, _, hcc, rfl⟩
      · cases e
    · have key : ∀ {y : Str} {b : Addr}, List.lookup y [(("__class__" : Str), cc)] = some b → y = "__class__" := fun {y b} q => by
        rw [List.lookup_cons] at q
        cases z : y == ("__class__" : Str) with
        | true => exact eq_of_beq z
        | false => rw [z] at q; cases q
      exact (key h1).trans (key h2).symm
    · match i, hy with
      | 0, hy =>
        have e : (("__class__" : Str)) = y := Option.some.inj hy
        subst e
        refine ⟨cc, by show List.lookup _ [(("__class__" : Str), cc)] = some cc; rw [List.lookup_cons, beq_self_eq_true], fun v hv => ?_⟩
        have e : V.ref D = v := Option.some.inj (Option.some.inj hv)
        subst e
        exact ⟨_, rfl, _, hcc, rfl⟩
  refine ks_codeAny_call_defAt (fd := PySem.W.fnX x qual (defArgs st) (defBody st) (defScope st) [("__class__", cc)] .none kV doc pm an (.ref c) ct) (body := defBody st) (binds := ps.zip us) hr.depth (KX _ _ lk) rfl lim (PySem.W.codeRec_of KX F.cd) rfl hb
    S.nocell (fun ⟨n, _⟩ hy => S.par n (List.of_mem_zip hy).1) (fun h₁ hns kp => ?_) S.co S.gen S.kind
  have I : Inv (ncx CX P w K mg base N (nf x qual st c cc) f A outer s H E) [] (startF N vs [some (.ref D)]) H { s with heap := h₁, toks := s.toks + (ps.zip us).length } := inv_startN S hr.hd e0 hl r C hns kp
  refine ks_wpAt_mono (hbody A outer s H vs Q E (hr.deeper _) hsp _ I) (fun fl s' hs => ?_) fun e s' hs => hs
  have fin : ∀ {σ' : L2.St} {H' : Hp} {v : V} {u : Value}, Inv (ncx CX P w K mg base N (nf x qual st c cc) f A outer s H E) [] σ' H' s' → L2.RelV v u → Q v H' → CE outer P w H s Q u s' :=
    fun {σ' H' v u} J rv q => ⟨v, H', J.os, J.bare, J.base, J.hok, rv, q⟩
  cases fl with
  | ret u =>
    obtain ⟨v, σ', H', J, rv, q⟩ := hs
    exact fin J rv q
  | next =>
    obtain ⟨σ', H', J, q⟩ := hs
    exact fin (v := V.non) (u := Value.none) J rfl q
  | brk =>
    obtain ⟨_, _, _, q⟩ := hs
    exact False.elim q
  | cont =>
    obtain ⟨_, _, _, q⟩ := hs
    exact False.elim q
end
/-! ### super().m(e, ..) as the first statement, m a def of a class above -/
/-- facts of the running def, by the context -/
structure AtS (X : Cx) (body : List Stmt) (f c cc D : Addr) (me : Str) : Prop where
  hk : X.env.scope.kind = .function
  hks : X.env.kindOf "super" = some .globalImplicit
  hkc : X.env.kindOf "__class__" = some .free
  hfu : X.env.func = some f
  hco : X.env.code = .ref c
  cl : X.env.cells.lookup ("__class__" : Str) = some cc
  hkl : X.env.kindOf me = some .local
  fn : ∃ (oc : Value) (od : Option Addr) (fd : FuncData) (osl : Array (Option Value)) (ar : Arg), X.K.lookup f = some ⟨oc, od, .func fd, osl⟩ ∧ (fd.params.posonlyargs ++ fd.params.args).head? = some ar ∧ ar.arg = me
  file : ∃ (ccl : Value) (cdd : Option Addr) (vs : Array Value) (ccs : Array (Option Value)) (fl : Str) (tf : Tok), X.K.lookup c = some ⟨ccl, cdd, .fields vs, ccs⟩ ∧ vs[2]? = some (.str fl tf) ∧ ((X.prog.main.file : Str) == fl) = true
  cell : ∃ (l : Value) (ld : Option Addr) (csl : Array (Option Value)), X.K.lookup cc = some ⟨l, ld, .cell (some (.ref D)), csl⟩
/-- facts of the text -/
structure SupT (prog : Program) (K : PySem.W.Frag) (mg : Str → Option Value) (D : Addr) : Prop where
  top : (prog.main.scope.names.lookup ("super" : Str)).isSome = false
  mg : mg "super" = none
  cls : ∃ cdD, PySem.W.clsIn K D = some cdD
  third : PySem.W.nsIn K cStatics "thirdparty.any" = some none
section
variable {X : Cx} {body : List Stmt} {f c cc D : Addr} {me : Str} {pins : List (Addr × Obj)} {s : Shared} {σ : L2.St} {H : Hp}
/-- super() itself: a new object, kept aside -/
theorem super_base {attr : Str} {whole : Sem Value} {p0 p1 : Pos} {x C : Addr} {ox : Obj} {Q : Value → Shared → Prop} (a : AtS X body f c cc D me) (t : SupT X.prog X.K X.mg D) (I : Inv X pins σ H s)
    (hN : X.N[0]? = some me) (hx : σ[0]? = some (some (.ref x))) (ho : s.heap.get? x = some ox) (hc : ox.cls = .ref C) (hnc : ∀ c, ox.data ≠ .cls c)
    (hsub : PySem.W.mroIn X.K C (.ref D) = some true) (hat : (attr == ("__class__" : Str)) = false)
    (h : ∀ so h', so = s.heap.objs.size → h'.get? so = some (PySem.W.ks_superObj D x C) → (∀ b o, s.heap.get? b = some o → h'.get? b = some o) → Inv X pins σ H { s with heap := h' } → Q (.ref so) { s with heap := h' }) :
    PySem.wpAt (model X.prog X.w) X.A (.func body X.env) (attributeBase (.Call (.Name "super" p0) [] [] p1) attr X.env whole) Q X.xe s := by
  obtain ⟨oc, od, fd, osl, ar, lf, hp, hself⟩ := a.fn
  obtain ⟨ccl, cdd, vs, ccs, fl, tf, lc, hvs, hfile⟩ := a.file
  obtain ⟨l, ld, csl, lcc⟩ := a.cell
  obtain ⟨cdD, hD⟩ := t.cls
  have KX := I.kIn
  obtain ⟨oD, hD1, hD2⟩ : ∃ oD, s.heap.get? D = some oD ∧ oD.data = .cls cdD := by
    unfold PySem.W.clsIn at hD
    split at hD
    · rename_i c d cd' sl ho
      cases hD
      exact ⟨_, KX _ _ ho, rfl⟩
    · cases hD
  obtain ⟨m, hns, hl⟩ := I.loc
  obtain ⟨u, ru, lk⟩ := hl 0 me _ hN hx (.inl a.hkl)
  obtain rfl : u = Value.ref x := ru
  have hm : m me = some (Value.ref x) := by
    rcases lk with ⟨_, e⟩ | ⟨e, _⟩
    · exact e
    · rw [a.hkl] at e
      rcases e with e | e <;> cases e
  refine ks_wpAt_super_base a.hks a.hkc hat a.hfu (KX _ _ lf) rfl hp a.hco (KX _ _ lc) rfl hvs hfile t.top ?_
  obtain ⟨mb, b1, b2⟩ := I.mod.blt
  refine PySem.W.ks_loadName_global a.hk a.hks (Calls.loadGlobal_builtin (by rw [I.ok.glob]; exact I.mod.glob.keeps I.bk) t.mg (by rw [I.ok.blt]; exact b1.keeps I.bk) ((b2 _ (by decide)).trans (by decide +kernel : bootBuiltins "super" = some (.type "super"))) ⟨rfl, ?_⟩)
  refine wpAny_loadName_free a.hk a.hkc a.cl ⟨_, KX _ _ lcc, rfl⟩ ?_
  rw [hself]
  refine wpAny_loadName_local a.hk a.hkl hns hm ?_
  refine ks_wpAny_isType_cls hD1 hD2 ⟨rfl, ?_⟩
  obtain ⟨hh, g, d, tk, os⟩ := s
  exact ks_wpAny_call_super hD1 hD2 ho hc hnc (PySem.W.looks_mroIn KX hsub) fun h' e k => h _ _ rfl e k (I.kept (t' := tk) k)
/-- super().m: the def of the class above, bound; kept aside -/
theorem super_meth {name : Str} {pl : Sem Bool} {x C so f2 : Addr} {ox : Obj} {Q : Value × List Value → Shared → Prop} (I : Inv X pins σ H s) (hso : s.heap.get? so = some (PySem.W.ks_superObj D x C))
    (ho : s.heap.get? x = some ox) (hnc : ∀ c, ox.data ≠ .cls c) (third : PySem.W.nsIn X.K cStatics "thirdparty.any" = some none)
    (hm : PySem.W.ks_superIn X.K C D name = some (some (.ref f2))) (ht : PySem.W.typeIn X.K (.ref f2) = some (.type "function")) (hn : (name == ("__class__" : Str)) = false)
    (h : ∀ q s', q = s.heap.objs.size → s'.heap.get? q = some (PySem.W.methodObj (.ref f2) (.ref x)) → (∀ b o, s.heap.get? b = some o → s'.heap.get? b = some o) → Inv X pins σ H s' → Q (.ref q, []) s') :
    wpAny (model X.prog X.w) X.A (getMethod (.ref so) name pl) Q X.xe s := by
  have KX := I.kIn
  obtain ⟨hh, g, d, tk, os⟩ := s
  cases hc : PySem.W.clsIn X.K C with
  | none => unfold PySem.W.ks_superIn at hm; rw [hc] at hm; cases hm
  | some cd =>
    unfold PySem.W.ks_superIn at hm
    rw [hc] at hm
    have hxC : x ≠ C := by
      rintro rfl
      unfold PySem.W.clsIn at hc
      split at hc
      · rename_i c d cd' sl hoc
        have e := KX _ _ hoc
        rw [ho] at e
        cases e
        exact hnc _ rfl
      · cases hc
    obtain ⟨of, hof, hofc⟩ : ∃ of, hh.get? f2 = some of ∧ of.cls = .type "function" := by
      have ht' : (X.K.lookup f2).map (·.cls) = some (.type "function") := ht
      cases z : X.K.lookup f2 with
      | none => rw [z] at ht'; cases ht'
      | some of => rw [z] at ht'; exact ⟨of, KX _ _ z, Option.some.inj ht'⟩
    refine ks_wpAny_getMethod_super hso (PySem.W.looks_opaque KX third) (l₀ := cd.mro) ?_ rfl KX hm hof hofc hxC hn ?_
    · exact fun A Q E s k q => wpAny_bind ((PySem.W.looks_clsIn KX hc) A _ E s k (wpAny_pure q))
    · have kp : ∀ b o, hh.get? b = some o → (hh.push (PySem.W.methodObj (.ref f2) (.ref x))).get? b = some o := fun b o e => Heap.get?_push_of_some _ e
      exact h _ _ rfl (Heap.get?_push_at rfl rfl) kp (I.kept (t' := tk + 1) kp)
/-- an instance that is tracked: what super() asks of it -/
theorem ins_obj {a C dx : Addr} {fs : List (Str × V)} (I : Inv X pins σ H s) (e : H a = some (.ins C dx fs)) : ∃ ox : Obj, s.heap.get? a = some ox ∧ ox.cls = .ref C ∧ ∀ c, ox.data ≠ .cls c := by
  obtain ⟨d, z, ne, ob, _⟩ := (show ObjOk X.prog X.w H s.heap a (.ins C dx fs) from I.hok a _ e)
  exact ⟨_, ob, rfl, fun c h => by cases h⟩
/-- super().m(e, ..), then the rest -/
theorem super_own {CX : CXT} {k : Nat} {f2 x C : Addr} {fd2 : FuncData} {ps2 : List Str} {sp2 : Sp} {dvs : List V} {ds : List Value} {E : XK} {attr : Str} {e : Expr} {es : List Expr} {t : TA} {rest : List Stmt} {u : TS} {D' : Ends} {p0 p1 p2 p3 p4 : Pos}
    (a : AtS X body f c cc D me) (T : SupT X.prog X.K X.mg D) (F : FnOk X.prog X.w X.K X.mg X.base CX k f2 fd2 ps2 sp2) (hr : Room k X.A) (hb : Binds X.K fd2 ps2 ds) (hd : Vals dvs ds) (hx : Passes CX X E)
    (hN : X.N[0]? = some me) (hm : PySem.W.ks_superIn X.K C D attr = some (some (.ref f2))) (ht : PySem.W.typeIn X.K (.ref f2) = some (.type "function")) (hfn : PySem.W.fnIn X.K f2 = true)
    (hsub : PySem.W.mroIn X.K C (.ref D) = some true) (hat : (attr == ("__class__" : Str)) = false) (ha : PA X (e :: es) t) (hrest : PSs X rest u)
    (I : Inv X pins σ H s) (hσ : σ[0]? = some (some (.ref x))) (hins : ∃ ox : Obj, s.heap.get? x = some ox ∧ ox.cls = .ref C ∧ ∀ c, ox.data ≠ .cls c)
    (hq : t σ H fun vs H1 => sp2 (.ref x :: (vs ++ dvs)) H1 (fun _ H2 => u D' σ H2) E)
    (hi : interactive X.env = false) (hs : swapsWith (.Call (.Attribute (.Call (.Name "super" p0) [] [] p1) attr p2) (e :: es) [] p3) none p4.line X.env = pure false)
    (he : eval (.Call (.Attribute (.Call (.Name "super" p0) [] [] p1) attr p2) (e :: es) [] p3) X.env = (do
      let ov ← attributeBase (.Call (.Name "super" p0) [] [] p1) attr X.env (eval (.Call (.Name "super" p0) [] [] p1) X.env)
      standAt p2.atName
      let (f, first) ← holding [ov] (getMethod ov attr (pure false))
      callWith p3 f first (backTo p3 (starEach (e :: es) X.env)) []))
    (hst : starEach (e :: es) X.env = (false, eval e X.env) :: starEach es X.env) (hpl : (backTo p3 (starEach es X.env)).any (·.1) = false) :
    PySem.wpAt (model X.prog X.w) X.A (.func body X.env) (execs (.Expr (.Call (.Attribute (.Call (.Name "super" p0) [] [] p1) attr p2) (e :: es) [] p3) p4 :: rest) X.env) (SP X pins D') X.xe s := by
  obtain ⟨ox, ho, hc, hnc⟩ := hins
  refine ks_wpAt_execs_cons (ks_wpAt_Expr_any (ks_wpAt_MethodCall (pl := pure false) (super_base a T I hN hσ ho hc hnc hsub hat fun so h' eso hso kp I1 => ?_) he) hi hs)
  refine super_meth (x := x) (C := C) (D := D) I1 hso (kp _ _ ho) hnc T.third hm ht hat fun q s2 eq hq2 kp2 I2 => ?_
  have hqn : H q = none := by rw [eq]; exact I1.hok.fresh (Nat.le_refl _)
  have hq0 : X.s_0.heap.objs.size ≤ q := by rw [eq]; exact I1.sz
  have hqL : q ≠ X.env.locals := by rw [eq]; exact (Nat.ne_of_lt I1.lt).symm
  have hqf : q ∉ X.fs := by rw [eq]; exact I1.nofs (Nat.le_refl _)
  have J : Inv X (pins ++ [(q, PySem.W.methodObj (.ref f2) (.ref x))]) σ H s2 := I2.pins_of fun p hp => by
    rcases List.mem_append.mp hp with hp | hp
    · exact I2.pin p (List.mem_append_right _ hp)
    · obtain rfl := List.mem_singleton.mp hp
      exact ⟨hq2, hqn, hqL, hqf, fun v hv => by cases hv⟩
  refine PySem.W.callWith_M (h₀ := X.base) (L := X.env.locals) (news := [(q, PySem.W.methodObj (.ref f2) (.ref x))]) I.ok.mod.kin ?_ (List.mem_singleton.mpr rfl) hfn ?_ hst hpl
  · intro p hp
    obtain rfl := List.mem_singleton.mp hp
    exact ⟨hq2, hqL, Heap.get?_none_of_le (Nat.le_trans I.ok.bsz hq0)⟩
  refine thn (ha.run p3 _ s2 σ H _ J hq) fun us s3 ⟨vs, H3, I3, r, q3⟩ => ?_
  have hq3 : s3.heap.get? q = some (PySem.W.methodObj (.ref f2) (.ref x)) := (I3.pin _ (List.mem_append_right _ (List.mem_append_right _ (List.mem_singleton.mpr rfl)))).1
  refine ⟨⟨hq3, I3.kIn⟩, ?_⟩
  refine wpAny_call (PySem.W.method_call hq3 ?_)
  have r2 : Vals (V.ref x :: (vs ++ dvs)) (Value.ref x :: (us ++ ds)) := .cons rfl (r.append hd)
  have hl : (Value.ref x :: (us ++ ds)).length = ps2.length := by rw [← r2.length]; exact F.len _ _ _ _ q3
  have I4 : Inv X pins σ H3 s3 := I3.pins_of fun p hp => I3.pin p (List.mem_append_right _ (List.mem_append_left _ hp))
  refine codeAny_mono (F.run X.A X.stack s3 H3 ⟨.ref x :: us, []⟩ (.ref x :: (us ++ ds)) (.ref x :: (vs ++ dvs)) _ E hr I3.env0 (hb s3 (.ref x :: us) I3.kIn hl) r2 q3) fun r s' hq' => ?_
  cases r with
  | error e => exact hx pins σ H3 s3 e s' I4 hq'
  | ok fl =>
    cases fl with
    | ret v =>
      obtain ⟨v', H', I5, _, q5⟩ := I4.after hq'
      exact wpAt_of_wpAny (hrest.run pins s' σ H' D' I5 q5)
    | next => exact False.elim hq'
    | brk => exact False.elim hq'
    | cont => exact False.elim hq'
end
end Sup
namespace Sup
open PySem PySem.Spec PyProof.Rows L2
open NdefX (NF NScope ncx envF startF CellsAt inv_startN)
section
variable {X : Cx} {body : List Stmt} {f c cc D : Addr} {me : Str} {pins : List (Addr × Obj)} {s : Shared} {σ : L2.St} {H : Hp}
/-- an exception that is being made: what super() asks of it -/
theorem exo_obj {a C : Addr} {d : Option Addr} (I : Inv X pins σ H s) (e : H a = some (exo a C d)) : ∃ ox : Obj, s.heap.get? a = some ox ∧ ox.cls = .ref C ∧ ∀ c, ox.data ≠ .cls c := by
  obtain ⟨t1, ho⟩ := exo_at I.hok e
  exact ⟨_, ho, rfl, fun c h => by cases h⟩
/-- super().__init__, ValueError's, bound; kept aside -/
theorem super_methX {pl : Sem Bool} {x C so : Addr} {Q : Value × List Value → Shared → Prop} (I : Inv X pins σ H s) (hso : s.heap.get? so = some (PySem.W.ks_superObj D x C))
    (hx : H x = some (exo x C none)) (third : PySem.W.nsIn X.K cStatics "thirdparty.any" = some none)
    (hm : PySem.W.ks_superIn X.K C D "__init__" = some (some (.builtin "ValueError.__init__"))) (hB : PySem.W.subIn X.K (.ref C) (.type "ValueError") = some true)
    (h : ∀ q s', q = s.heap.objs.size → s'.heap.get? q = some (PySem.W.kxs_mw "ValueError.__init__" x) → Inv X pins σ H s' → Q (.ref q, []) s') :
    wpAny (model X.prog X.w) X.A (getMethod (.ref so) "__init__" pl) Q X.xe s := by
  have KX := I.kIn
  obtain ⟨t1, ho⟩ := exo_at I.hok hx
  have hI : PySem.W.Looks (model X.prog X.w) s.heap (isInstance (.ref x) (.type "ValueError")) true :=
    (PySem.W.InstAt.type (ox := { cls := .ref C, dict := none, data := .fields #[.ref t1, .none, .none, .none, .bool false, .none] }) (od := none) ⟨ho, rfl, rfl, trivial⟩).andThen (PySem.W.looks_subIn KX hB)
  obtain ⟨hh, g, d, tk, os⟩ := s
  cases hc : PySem.W.clsIn X.K C with
  | none => unfold PySem.W.ks_superIn at hm; rw [hc] at hm; cases hm
  | some cd =>
    unfold PySem.W.ks_superIn at hm
    rw [hc] at hm
    have hxC : x ≠ C := by
      rintro rfl
      unfold PySem.W.clsIn at hc
      split at hc
      · rename_i c d cd' sl hoc
        have e := KX _ _ hoc
        rw [ho] at e
        cases e
      · cases hc
    refine PySem.W.kxs_getMethod PySem.W.kxs_ValueError hso (PySem.W.looks_opaque KX third) (l₀ := cd.mro) ?_ rfl KX hm hI hxC (by decide) ?_
    · exact fun A Q E s k q => wpAny_bind ((PySem.W.looks_clsIn KX hc) A _ E s k (wpAny_pure q))
    · have kp : ∀ b o, hh.get? b = some o → (hh.push (PySem.W.kxs_mw "ValueError.__init__" x)).get? b = some o := fun b o e => Heap.get?_push_of_some _ e
      exact h _ _ rfl (Heap.get?_push_at rfl rfl) (I.kept (t' := tk + 1) kp)
/-- it is called: nothing of it is told -/
theorem call_mw {u a C : Addr} {us : List Value} {Q : Value → Shared → Prop} (T : OexC X.K C) (I : Inv X pins σ H s) (hu : s.heap.get? u = some (PySem.W.kxs_mw "ValueError.__init__" a)) (e : H a = some (exo a C none)) (hl : us.length ≤ sizeLine)
    (h : ∀ s', Inv X pins σ H s' → Q .none s') : wpAny (model X.prog X.w) X.A (call (.ref u) us) Q X.xe s := by
  obtain ⟨nm, q, N, bs, bm, sn, sub, ab, col, dd, k0, k1, k2, k3, k5, hC, hbm⟩ := T.cls
  obtain ⟨t1, ho⟩ := exo_at I.hok e
  have hCs := I.kIn _ _ hC
  obtain ⟨hh, g, d, tk, os⟩ := s
  refine wpAny_call (codeAny_of_tree ?_)
  show wpAny _ X.A.in1 (callAny (.ref u) ⟨us, []⟩) _ _ _
  simp only [callAny]
  refine wpAny_bind (wpAny_load hu ?_)
  simp only [PySem.W.kxs_mw, show (Value.type "method-wrapper" == Value.type "method" || Value.type "method-wrapper" == Value.type "builtin_function_or_method" || Value.type "method-wrapper" == Value.type "method-wrapper") = true by decide, if_true]
  refine PySem.W.KFB.if_so (by decide) ?_
  refine wpAny_bind (PySem.W.check_bound_init F.excBase_ValueError.toExcCallFacts hCs ho rfl ?_)
  refine wpAny_bind (wpAny_pure (wpAny_pure ?_))
  refine ⟨plainId_quiet F.excBase_ValueError.init.plain _, codeAny_builtin F.excBase_ValueError.initEntry ?_⟩
  refine PySem.W.exc_init_tree (cls := .ref C) (t0 := t1) (dv := none) (c2 := .none) (c3 := .none) (b4 := .bool false) ho hl fun h' k e' t' => ?_
  have J := I.write (t' := tk) (x := a) (e := a) (o := exo a C none) (by rw [e]; exact True.intro) (.inl rfl) k ⟨_, e'⟩ (exo_ok e')
  have eu : upd H a (exo a C none) = H := by
    funext b
    by_cases hb : b = a
    · rw [hb, upd_same, e]
    · rw [upd_ne hb]
  rw [eu] at J
  exact h _ J
end
end Sup
namespace Sup
open PySem PySem.Spec PyProof.Rows L2
open NdefX (NF NScope ncx envF startF CellsAt inv_startN)
section
variable {X : Cx} {body : List Stmt} {f c cc D : Addr} {me : Str} {pins : List (Addr × Obj)} {s : Shared} {σ : L2.St} {H : Hp}
/-- super().__init__(e, ..) of an exception, then the rest -/
theorem super_exc {x C : Addr} {e : Expr} {es : List Expr} {t : TA} {rest : List Stmt} {u : TS} {D' : Ends} {p0 p1 p2 p3 p4 : Pos}
    (a : AtS X body f c cc D me) (T : SupT X.prog X.K X.mg D) (TC : OexC X.K C)
    (hN : X.N[0]? = some me) (hm : PySem.W.ks_superIn X.K C D "__init__" = some (some (.builtin "ValueError.__init__"))) (hB : PySem.W.subIn X.K (.ref C) (.type "ValueError") = some true)
    (hsub : PySem.W.mroIn X.K C (.ref D) = some true) (ha : PA X (e :: es) t) (hrest : PSs X rest u)
    (I : Inv X pins σ H s) (hσ : σ[0]? = some (some (.ref x))) (hx : H x = some (exo x C none))
    (hq : t σ H fun vs H1 => vs.length ≤ 1000 ∧ H1 x = some (exo x C none) ∧ u D' σ H1)
    (hi : interactive X.env = false) (hs : swapsWith (.Call (.Attribute (.Call (.Name "super" p0) [] [] p1) "__init__" p2) (e :: es) [] p3) none p4.line X.env = pure false)
    (he : eval (.Call (.Attribute (.Call (.Name "super" p0) [] [] p1) "__init__" p2) (e :: es) [] p3) X.env = (do
      let ov ← attributeBase (.Call (.Name "super" p0) [] [] p1) "__init__" X.env (eval (.Call (.Name "super" p0) [] [] p1) X.env)
      standAt p2.atName
      let (f, first) ← holding [ov] (getMethod ov "__init__" (pure false))
      callWith p3 f first (backTo p3 (starEach (e :: es) X.env)) []))
    (hst : starEach (e :: es) X.env = (false, eval e X.env) :: starEach es X.env) (hpl : (backTo p3 (starEach es X.env)).any (·.1) = false) :
    PySem.wpAt (model X.prog X.w) X.A (.func body X.env) (execs (.Expr (.Call (.Attribute (.Call (.Name "super" p0) [] [] p1) "__init__" p2) (e :: es) [] p3) p4 :: rest) X.env) (SP X pins D') X.xe s := by
  obtain ⟨ox, ho, hc, hnc⟩ := exo_obj I hx
  refine ks_wpAt_execs_cons (ks_wpAt_Expr_any (ks_wpAt_MethodCall (pl := pure false) (super_base a T I hN hσ ho hc hnc hsub (by decide) fun so h' eso hso kp I1 => ?_) he) hi hs)
  refine super_methX (x := x) (C := C) (D := D) I1 hso hx T.third hm hB fun q s2 eq hq2 I2 => ?_
  have hqn : H q = none := by rw [eq]; exact I1.hok.fresh (Nat.le_refl _)
  have hq0 : X.s_0.heap.objs.size ≤ q := by rw [eq]; exact I1.sz
  have hqL : q ≠ X.env.locals := by rw [eq]; exact (Nat.ne_of_lt I1.lt).symm
  have hqf : q ∉ X.fs := by rw [eq]; exact I1.nofs (Nat.le_refl _)
  have J : Inv X (pins ++ [(q, PySem.W.kxs_mw "ValueError.__init__" x)]) σ H s2 := I2.pins_of fun p hp => by
    rcases List.mem_append.mp hp with hp | hp
    · exact I2.pin p (List.mem_append_right _ hp)
    · obtain rfl := List.mem_singleton.mp hp
      exact ⟨hq2, hqn, hqL, hqf, fun v hv => by cases hv⟩
  refine PySem.W.kxs_callWith1 (h₀ := X.base) (L := X.env.locals) (news := [(q, PySem.W.kxs_mw "ValueError.__init__" x)]) (i := "ValueError.__init__") (x := x) ?_ (List.mem_singleton.mpr rfl) ?_ hst hpl
  · intro p hp
    obtain rfl := List.mem_singleton.mp hp
    exact ⟨hq2, hqL, Heap.get?_none_of_le (Nat.le_trans I.ok.bsz hq0)⟩
  refine thn (ha.run p3 _ s2 σ H _ J hq) fun us s3 ⟨vs, H3, I3, r, hl, hx3, q3⟩ => ?_
  have hq3 : s3.heap.get? q = some (PySem.W.kxs_mw "ValueError.__init__" x) := (I3.pin _ (List.mem_append_right _ (List.mem_append_right _ (List.mem_singleton.mpr rfl)))).1
  have I4 : Inv X pins σ H3 s3 := I3.pins_of fun p hp => I3.pin p (List.mem_append_right _ (List.mem_append_left _ hp))
  refine ⟨hq3, ?_⟩
  exact call_mw TC I4 hq3 hx3 (by rw [← r.length]; exact Nat.le_trans hl (by decide)) fun s' I5 => wpAt_of_wpAny (hrest.run pins s' σ H3 D' I5 q3)
end
theorem atS_of {P : Program} {w : World} {K : PySem.W.Frag} {mg : Str → Option Value} {base : Heap} {CX : CXT} {x qual : Str} {st : Stmt} {f c cc D : Addr} {fd : FuncData} {N : List Str} {A : Around} {outer : List Env} {s : Shared} {H : Hp} {E : XK} {me : Str} {body : List Stmt}
    (F : FunS P K x qual st f fd c cc D) (hk : (defScope st).kind = .function) (hs : (defScope st).names.lookup ("super" : Str) = some .globalImplicit) (hc : (defScope st).names.lookup ("__class__" : Str) = some .free)
    (hm : (defScope st).names.lookup me = some .local) (ha : ∃ ar, ((defArgs st).posonlyargs ++ (defArgs st).args).head? = some ar ∧ ar.arg = me) : AtS (ncx CX P w K mg base N (nf x qual st c cc) f A outer s H E) body f c cc D me := by
  obtain ⟨oc, od, kV, doc, pm, an, ct, osl, rfl, lk⟩ := F.ex
  obtain ⟨ar, h1, h2⟩ := ha
  refine ⟨hk, hs, hc, rfl, rfl, ?_, hm, ⟨oc, od, _, osl, ar, lk, h1, h2⟩, F.file, F.cell⟩
  show List.lookup _ [(("__class__" : Str), cc)] = some cc
  rw [List.lookup_cons, beq_self_eq_true]
end Sup
namespace Sj
open PySem L2
open C8 (pss_cut tCut)
def top (i : Nat) : Stmt := PySem.Challenge.pw_strayjoins_k67_words_arrived_and_hurt_li.main.body.getD i (.Pass ⟨0, 0, 0, 0⟩)
abbrev sPen : Stmt := top 52
abbrev sDraw : Stmt := top 53
abbrev sPick : Stmt := top 54
/-! ### the pen: its cells, the next place, what is left of a great one -/
def penO (l : Addr) (i g : Int) : HO := .lst [.ref l, .int i, .int g]
def Pen (H : Hp) (p l : Addr) (cs : List Int) (n : Nat) : Prop :=
  ∃ i g : Int, H p = some (penO l i g) ∧ H l = some (.lst (cs.map V.int)) ∧ cs.length ≤ 63 ∧ 0 ≤ i ∧ i ≤ n
/-- all that stood but at p stands as it was -/
def But (H H' : Hp) (p : Addr) : Prop := ∀ b o, b ≠ p → H b = some o → H' b = some o
theorem But.upd (H : Hp) (p : Addr) (o : HO) : But H (upd H p o) p := fun b _ h e => by rw [upd_ne h]; exact e
theorem But.trans {H H1 H2 : Hp} {p : Addr} (a : But H H1 p) (b : But H1 H2 p) : But H H2 p := fun c o h e => b c o h (a c o h e)
theorem But.put {H H1 : Hp} {p : Addr} (a : But H H1 p) (o : HO) : But H (L2.upd H1 p o) p := a.trans (.upd _ _ _)
theorem But.new {H H1 : Hp} {p q : Addr} (a : But H H1 p) (hq : H1 q = none) (o : HO) : But H (L2.upd H1 q o) p := fun b _ h e => by
  have e1 := a b _ h e
  rw [upd_ne (ne_of_none e1 hq)]
  exact e1
def spDraw : Sp := fun vs H Q _ => ∃ (p l : Addr) (cs : List Int) (n : Nat) (m : Int), vs = [.ref p, .int m] ∧ Pen H p l cs n ∧ 0 < m ∧ m < 1073741824 ∧ n < 1000000 ∧
  ∀ (d i g : Int) (H' : Hp), 0 ≤ d → d < m → 0 ≤ i → i ≤ n + 1 → H' p = some (penO l i g) → But H H' p → Q (.int d) H'
structure Bi (mg : Str → Option Value) : Prop where
  int : mg "int" = none
  len : mg "len" = none
  abs : mg "abs" = none
theorem dp_ints {K : PySem.W.Frag} {H : Hp} : ∀ cs : List Int, DpAll K H (cs.map V.int) (cs.map PyData.int)
  | [] => .nil
  | c :: cs => .cons (.int c) (dp_ints cs)
theorem shaped_ints (cs : List Int) : SeqAt.shaped (.list (cs.map PyData.int)) = true := by
  unfold SeqAt.shaped
  rw [Bool.and_eq_true]
  refine ⟨?_, decide_eq_true ?_⟩
  · show PyData.canLayAll0 (cs.map PyData.int) = true
    induction cs with
    | nil => rfl
    | cons c cs ih => exact Bool.and_eq_true_iff.mpr ⟨rfl, ih⟩
  · have e : PyData.depthAll (cs.map PyData.int) ≤ 1 := by
      induction cs with
      | nil => exact Nat.zero_le _
      | cons c cs ih => exact Nat.max_le.mpr ⟨(show (0 : Nat) ≤ 1 by decide), ih⟩
    show PyData.depthAll (cs.map PyData.int) + 1 ≤ 64
    omega
theorem small1 {b c i m : Int} {n : Nat} {x : Int} (i0 : 0 ≤ i) (i1 : i ≤ n) (n1 : n < 1000000) (hm : 0 < m ∧ m < 4294967296 := by decide) (hb : 0 ≤ b ∧ b < 100000 := by decide) (hc : 0 ≤ c ∧ c < 100000 := by decide) :
    (x % m + b * i + c).natAbs < 2 ^ 64 := by
  have h1 := Int.emod_nonneg x (show m ≠ 0 by omega)
  have h2 := Int.emod_lt_of_pos x hm.1
  have h3 : 0 ≤ b * i := Int.mul_nonneg hb.1 i0
  have h4 : b * i ≤ 100000 * 1000000 := Int.mul_le_mul (by omega) (by omega) i0 (by decide)
  have h5 : (2 : Nat) ^ 64 = 18446744073709551616 := by decide
  omega
theorem small3 {b i : Int} (i0 : 0 ≤ i) (hb : 0 ≤ b ∧ b < 100000 := by decide) : -(2 ^ 64) < b * i := by
  have h3 : 0 ≤ b * i := Int.mul_nonneg hb.1 i0
  have h5 : (2 : Int) ^ 64 = 18446744073709551616 := by decide
  omega
theorem small4 {b i : Int} {n : Nat} (i1 : i ≤ n) (n1 : n < 1000000) (hb : 0 ≤ b ∧ b < 100000 := by decide) : b * i < 2 ^ 64 := by
  have h4 : b * i ≤ b * 1000000 := Int.mul_le_mul_of_nonneg_left (by omega) hb.1
  have h5 : (2 : Int) ^ 64 = 18446744073709551616 := by decide
  omega
theorem small2 {a b c e i y : Int} {n : Nat} (i0 : 0 ≤ i) (i1 : i ≤ n) (n1 : n < 1000000) (y0 : 0 ≤ y) (y1 : y < 2147483648) (ha : 0 ≤ a ∧ a < 10 := by decide) (hb : 0 ≤ b ∧ b < 100000 := by decide)
    (hc : 0 ≤ c ∧ c < 100000 := by decide) (he : 0 ≤ e ∧ e < 100000 := by decide) : (y * (a * i + b) + c * i * i + e).natAbs < 2 ^ 64 := by
  have h3 : 0 ≤ a * i := Int.mul_nonneg ha.1 i0
  have h4 : a * i ≤ 10 * 1000000 := Int.mul_le_mul (by omega) (by omega) i0 (by decide)
  have h6 : 0 ≤ y * (a * i + b) := Int.mul_nonneg y0 (by omega)
  have h7 : y * (a * i + b) ≤ 2147483648 * 20000000 := Int.mul_le_mul (by omega) (by omega) (by omega) (by decide)
  have h8 : 0 ≤ c * i := Int.mul_nonneg hc.1 i0
  have h9 : c * i ≤ 100000 * 1000000 := Int.mul_le_mul (by omega) (by omega) i0 (by decide)
  have h10 : 0 ≤ c * i * i := Int.mul_nonneg h8 i0
  have h11 : c * i * i ≤ (100000 * 1000000) * 1000000 := Int.mul_le_mul h9 (by omega) i0 (by decide)
  have h5 : (2 : Nat) ^ 64 = 18446744073709551616 := by decide
  omega
theorem cut_ints (ns : List Int) (a b : Option Int) : ∃ cs : List Int, cutV (ns.map V.int) a b = cs.map V.int ∧ cs.length ≤ ns.length := by
  unfold cutV
  rw [← List.map_drop, ← List.map_take]
  exact ⟨_, rfl, by rw [List.length_take, List.length_drop]; omega⟩
theorem cell_at {cs : List Int} {i : Int} (h0 : 0 ≤ i) (hn : cs ≠ []) : ∃ v : Int, atI (cs.map V.int) (i % ((cs.map V.int).length : Nat)) = some (.int v) := by
  have hl : 0 < cs.length := List.length_pos_iff.mpr hn
  have e : (cs.map V.int).length = cs.length := List.length_map _
  have hb := Int.emod_lt_of_pos i (show (0 : Int) < (cs.length : Int) by omega)
  have hp := Int.emod_nonneg i (show (cs.length : Int) ≠ 0 by omega)
  obtain ⟨j, hj⟩ : ∃ j : Nat, i % (cs.length : Int) = (j : Int) := ⟨(i % (cs.length : Int)).toNat, by omega⟩
  have hjl : j < cs.length := by omega
  refine ⟨cs[j], ?_⟩
  rw [e, hj]
  exact atI_nat (by simp [hjl])
section
variable {P : Program} {w : World} {K : PySem.W.Frag} {mg : Str → Option Value} {base : Heap}
theorem scDraw : FnScope ["_law_pen_here", "_law_many", "_law_digit", "_law_at", "_law_cell", "_law_great", "_law_mixed"] ["_law_pen_here", "_law_many"] (defScope sDraw) :=
  ⟨rfl, rfl, rfl, by decide +kernel, rfl, by decide +kernel, by decide +kernel⟩
theorem ok_draw {f : Addr} {fd : FuncData} (F : Fun K "_law_draw" "_law_draw" sDraw f fd) (B : Bi mg) : FnOk P w K mg base CX0 1 f fd ["_law_pen_here", "_law_many"] spDraw := by
  refine F.ok scDraw (fun vs H Q E h => ?_) (fun cdv A outer s H vs Q E hr h => ?_)
  · obtain ⟨p, l, cs, n, m, rfl, _⟩ := h
    rfl
  · obtain ⟨p, l, cs, n, m, rfl, ⟨i, g, hp, hl, hz, i0, i1⟩, m0, m1, n1, k⟩ := h
    have npl : p ≠ l := fun q => by
      subst q
      rw [hp] at hl
      have e := List.map_eq_cons_iff.mp (HO.lst.inj (Option.some.inj hl)).symm
      obtain ⟨_, _, _, h1, _⟩ := e
      cases h1
    refine ⟨_, pss_cut
        (ps_if (pt_cmpR op_gt (pe_ix ix_list (pv 0) pe_int (fun _ _ => rfl)) pe_int (nomark _))
          (pss_cons (ps_set (i := 2) scDraw.nd rfl (Or.inl rfl) (pe_op op_mod (pe_callTy call_int1 (by rfl) B.int (by decide +kernel) (pa_cons (pe_ix ix_list (pv 0) pe_int (fun _ _ => rfl)) pa_nil)) (pv 1)))
          (pss_cons (ps_asg (pe_op op_fdiv (pe_callTy call_int1 (by rfl) B.int (by decide +kernel) (pa_cons (pe_ix ix_list (pv 0) pe_int (fun _ _ => rfl)) pa_nil)) (pv 1)) (pg_sub (pv 0) pe_int set_list))
          (pss_one (ps_ret (pv 2)))))
          pss_nil)
      (pss_cons (ps_set (i := 3) scDraw.nd rfl (Or.inl rfl) (pe_ix ix_list (pv 0) pe_int (fun _ _ => rfl)))
      (pss_cons (ps_asg (pe_op op_add (pv 3) pe_int) (pg_sub (pv 0) pe_int set_list))
      (pss_cons (ps_set (i := 4) scDraw.nd rfl (Or.inl rfl) (pe_op op_add (pe_op op_mul pe_int (pv 3)) pe_int))
      (pss_cut (ps_if (pt_cmpR (op_neD hr.units) (pe_ix ix_list (pv 0) pe_int (fun _ _ => rfl)) (pe_lst pa_nil) (nomark _))
          (pss_one (ps_set (i := 4) scDraw.nd rfl (Or.inl rfl) (pe_ix ix_list (pe_ix ix_list (pv 0) pe_int (fun _ _ => rfl))
            (pe_op op_mod (pe_callTy call_int1 (by rfl) B.int (by decide +kernel) (pa_cons (pv 3) pa_nil)) (pe_callB call_len_seq (by rfl) B.len PySem.boot_len (pa_cons (pe_ix ix_list (pv 0) pe_int (fun _ _ => rfl)) pa_nil))) (fun _ _ => rfl))))
          pss_nil)
      (pss_cut (ps_if (PW.pt (pw_and (pt_cmpR op_lt (pv 3) (pe_callB call_len_seq (by rfl) B.len PySem.boot_len (pa_cons (pe_ix ix_list (pv 0) pe_int (fun _ _ => rfl)) pa_nil)) (nomark _))
            (pw_and1 (pt_cmpR op_ge (pe_callB call_abs (by rfl) B.abs (by decide +kernel) (pa_cons (pv 4) pa_nil)) (pe_op op_pow pe_int pe_int) (nomark _)))))
          (pss_cons (ps_set (i := 5) scDraw.nd rfl (Or.inl rfl) (pe_op op_add (pe_op op_mul pe_int (pe_callB call_abs (by rfl) B.abs (by decide +kernel) (pa_cons (pv 4) pa_nil)))
              (pe_callTy call_int1 (by rfl) B.int (by decide +kernel) (pa_cons (pe_cmpR op_lt (pv 4) pe_int (nomark _)) pa_nil))))
          (pss_cons (ps_asg (pe_op op_fdiv (pv 5) (pv 1)) (pg_sub (pv 0) pe_int set_list))
          (pss_one (ps_ret (pe_op op_mod (pe_callTy call_int1 (by rfl) B.int (by decide +kernel) (pa_cons (pv 5) pa_nil)) (pv 1))))))
          pss_nil)
      (pss_cut (ps_set (i := 6) scDraw.nd rfl (Or.inl rfl) (pe_op op_mod (pe_callTy call_int1 (by rfl) B.int (by decide +kernel) (pa_cons (pe_op op_pow
          (pe_op op_add (pe_op op_add (pe_op op_mod (pe_callTy call_int1 (by rfl) B.int (by decide +kernel) (pa_cons (pv 4) pa_nil)) pe_int) (pe_op op_mul pe_int (pv 3))) pe_int) pe_int) pa_nil)) pe_int))
      (pss_cut (ps_set (i := 6) scDraw.nd rfl (Or.inl rfl) (pe_op op_mod (pe_callTy call_int1 (by rfl) B.int (by decide +kernel) (pa_cons (pe_op op_pow
          (pe_op op_add (pe_op op_add (pe_op op_mul (pv 6) (pe_op op_add (pe_op op_mul pe_int (pv 3)) pe_int)) (pe_op op_mul (pe_op op_mul pe_int (pv 3)) (pv 3))) pe_int) pe_int) pa_nil)) pe_int))
      (pss_one (ps_ret (pe_op op_mod (pe_callTy call_int1 (by rfl) B.int (by decide +kernel) (pa_cons (pe_op op_fdiv (pv 6) pe_int) pa_nil)) (pv 1))))))))))), ?_⟩
    refine ⟨fun σ' H' => σ' = start ["_law_pen_here", "_law_many", "_law_digit", "_law_at", "_law_cell", "_law_great", "_law_mixed"] [.ref p, .int m] ∧ H' = H,
      ⟨_, rfl, p, _, _, .int g, rfl, rfl, SqL.of hp, rfl, _, _, rfl, rfl, _, rfl, ite2 (fun _ => ?_) (fun _ => ⟨rfl, rfl⟩)⟩, ?_⟩
    · refine ⟨_, rfl, p, _, _, .int g, rfl, rfl, SqL.of hp, rfl, .inl ⟨_, rfl, _, rfl, _, _, rfl, rfl, m0, ?_⟩⟩
      refine ⟨_, rfl, p, _, _, .int g, rfl, rfl, SqL.of hp, rfl, .inl ⟨_, rfl, _, rfl, _, _, rfl, rfl, ⟨m0, m1⟩, ?_⟩⟩
      refine ⟨_, rfl, p, _, _, 2, rfl, rfl, hp, rfl, ?_⟩
      refine ⟨_, rfl, ?_⟩
      exact k _ _ _ _ (Int.emod_nonneg _ (by omega)) (Int.emod_lt_of_pos _ m0) i0 (by omega) upd_same (.upd _ _ _)
    · rintro σ' H' ⟨rfl, rfl⟩
      refine ⟨_, rfl, p, _, _, .int i, rfl, rfl, SqL.of hp, rfl, ?_⟩
      refine ⟨_, rfl, _, _, rfl, rfl, _, rfl, p, _, _, 1, rfl, rfl, hp, rfl, ?_⟩
      have b1 : But H' (upd H' p (penO l (i + 1) g)) p := .upd _ _ _
      have hp1 : upd H' p (penO l (i + 1) g) p = some (penO l (i + 1) g) := upd_same
      have hl1 : upd H' p (penO l (i + 1) g) l = some (.lst (cs.map V.int)) := b1 _ _ npl.symm hl
      refine ⟨_, rfl, _, _, rfl, rfl, .inl ⟨by decide, by decide⟩, _, _, rfl, rfl, ?_⟩
      refine ⟨fun σ2 H2 => ∃ c : Int, σ2 = [some (.ref p), some (.int m), none, some (.int i), some (.int c), none, none] ∧ H2 p = some (penO l (i + 1) g) ∧ H2 l = some (.lst (cs.map V.int)) ∧ But H' H2 p, ?_, ?_⟩
      · refine ⟨_, rfl, p, _, _, .ref l, rfl, rfl, SqL.of hp1, rfl, Nat.zero_le _, fun q hq => ?_⟩
        have npq : p ≠ q := ne_of_none hp1 hq
        have nlq : l ≠ q := ne_of_none hl1 hq
        have hp2 : upd (upd H' p (penO l (i + 1) g)) q (.lst []) p = some (penO l (i + 1) g) := by rw [upd_ne npq]; exact hp1
        have hl2 : upd (upd H' p (penO l (i + 1) g)) q (.lst []) l = some (.lst (cs.map V.int)) := by rw [upd_ne nlq]; exact hl1
        have b2 := b1.new hq (.lst [])
        refine ⟨.list (cs.map PyData.int), .list [], .lst (SqL.of hl2) (dp_ints cs), .lst (SqL.of upd_same) .nil, shaped_ints cs, rfl, _, rfl, ?_⟩
        cases cs with
        | nil => exact ⟨_, rfl, hp2, hl2, b2⟩
        | cons c cs =>
          refine iteT ?_
          obtain ⟨v, hv⟩ := cell_at (cs := c :: cs) i0 (by simp)
          refine ⟨_, rfl, p, _, _, .ref l, rfl, rfl, SqL.of hp2, rfl, _, rfl, .inl ⟨_, rfl, _, rfl, p, _, _, .ref l, rfl, rfl, SqL.of hp2, rfl, l, _, rfl, .inl (SqL.of hl2), _, _, rfl, rfl, ?_, ?_⟩⟩
          · show (0 : Int) < (((c :: cs).map V.int).length : Nat)
            simp
          · exact ⟨l, _, _, .int v, rfl, rfl, SqL.of hl2, hv, v, rfl, hp2, hl2, b2⟩
      · rintro σ2 H2 ⟨c, rfl, hp2, hl2, b2⟩
        have len63 : (cs.map V.int).length = cs.length := List.length_map _
        refine ⟨fun σ3 H3 => σ3 = [some (.ref p), some (.int m), none, some (.int i), some (.int c), none, none] ∧ H3 = H2, ?_, ?_⟩
        · refine ⟨_, rfl, _, rfl, p, _, _, .ref l, rfl, rfl, SqL.of hp2, rfl, l, _, rfl, .inl (SqL.of hl2), _, _, rfl, rfl, _, rfl, ite2 (fun _ => ?_) (fun _ => ⟨rfl, rfl⟩)⟩
          refine ⟨_, rfl, _, rfl, _, _, rfl, rfl, ⟨by decide, by decide, by decide⟩, _, _, rfl, rfl, _, rfl, ite2 (fun _ => ?_) (fun _ => ⟨rfl, rfl⟩)⟩
          refine ⟨_, rfl, _, rfl, _, _, rfl, rfl, .inl ⟨by decide, by decide⟩, _, rfl, _, _, rfl, rfl, .inr ⟨_, rfl, _, _, rfl, rfl, ?_⟩⟩
          refine ⟨_, rfl, _, rfl, _, _, rfl, rfl, ⟨m0, m1⟩, _, rfl, p, _, _, 2, rfl, rfl, hp2, rfl, ?_⟩
          refine ⟨_, rfl, .inl ⟨_, rfl, _, rfl, _, _, rfl, rfl, m0, ?_⟩⟩
          exact k _ _ _ _ (Int.emod_nonneg _ (by omega)) (Int.emod_lt_of_pos _ m0) (by omega) (by omega) upd_same (b2.put _)
        · rintro σ3 H3 ⟨rfl, rfl⟩
          refine ⟨fun σ4 H4 => ∃ y : Int, 0 ≤ y ∧ y < 2147483648 ∧ σ4 = [some (.ref p), some (.int m), none, some (.int i), some (.int c), none, some (.int y)] ∧ H4 = H3, ?_, ?_⟩
          · refine ⟨_, rfl, .inl ⟨_, rfl, _, _, rfl, rfl, (by show (0 : Int) < 2147483563; decide), _, rfl, _, _, rfl, rfl, .inl ⟨by decide, by decide⟩, _, _, rfl, rfl, _, _, rfl, rfl, _, _, rfl, rfl,
              ⟨by decide, by decide, ?_⟩, .inl ⟨_, rfl, _, _, rfl, rfl, (by show (0 : Int) < 2147483587; decide), _, Int.emod_nonneg _ (by decide), Int.lt_trans (Int.emod_lt_of_pos _ (by decide)) (by decide), rfl, rfl⟩⟩⟩
            exact small1 i0 i1 n1
          · rintro σ4 H4 ⟨y, y0, y1, rfl, rfl⟩
            refine ⟨fun σ5 H5 => ∃ y : Int, 0 ≤ y ∧ y < 2147483648 ∧ σ5 = [some (.ref p), some (.int m), none, some (.int i), some (.int c), none, some (.int y)] ∧ H5 = H4, ?_, ?_⟩
            · refine ⟨_, rfl, _, rfl, _, _, rfl, rfl, .inl ⟨by decide, by decide⟩, _, _, rfl, rfl, _, _, rfl, rfl, .inl ⟨?_, ?_⟩, _, rfl, _, _, rfl, rfl, .inl ⟨by decide, by decide⟩, _, rfl, _, _, rfl, rfl, .inl ⟨?_, ?_⟩,
                _, _, rfl, rfl, _, _, rfl, rfl, _, _, rfl, rfl, ⟨by decide, by decide, ?_⟩, .inl ⟨_, rfl, _, _, rfl, rfl, (by show (0 : Int) < 2147483629; decide), _, Int.emod_nonneg _ (by decide), Int.lt_trans (Int.emod_lt_of_pos _ (by decide)) (by decide), rfl, rfl⟩⟩
              · exact Int.lt_of_lt_of_le (by decide) y0
              · exact Int.lt_trans y1 (by decide)
              · exact small3 i0
              · exact small4 i1 n1
              · exact small2 i0 i1 n1 y0 y1
            · rintro σ5 H5 ⟨y, y0, y1, rfl, rfl⟩
              refine ⟨_, rfl, _, _, rfl, rfl, ⟨by decide, by decide⟩, .inl ⟨_, rfl, _, rfl, _, _, rfl, rfl, m0, ?_⟩⟩
              exact k _ _ _ _ (Int.emod_nonneg _ (by omega)) (Int.emod_lt_of_pos _ m0) (by omega) (by omega) hp2 b2
theorem scPick : FnScope ["_law_pen_here", "_law_some"] ["_law_pen_here", "_law_some"] (defScope sPick) := ⟨rfl, rfl, rfl, by decide +kernel, rfl, by decide +kernel, by decide +kernel⟩
def spPick : Sp := fun vs H Q _ => ∃ (p l q : Addr) (cs : List Int) (n : Nat) (xs : List V), vs = [.ref p, .ref q] ∧ Pen H p l cs n ∧ H q = some (.lst xs) ∧ q ≠ p ∧ 0 < xs.length ∧ xs.length < 1000 ∧ n < 1000000 ∧
  ∀ (j : Nat) (x : V) (H' : Hp), xs[j]? = some x → Pen H' p l cs (n + 1) → But H H' p → Q x H'
theorem Pen.next {H H' : Hp} {p l : Addr} {cs : List Int} {n : Nat} {i g : Int} (h : Pen H p l cs n) (i0 : 0 ≤ i) (i1 : i ≤ n + 1) (hp : H' p = some (penO l i g)) (b : But H H' p) : Pen H' p l cs (n + 1) := by
  obtain ⟨i', g', h1, h2, h3, h4, h5⟩ := h
  refine ⟨i, g, hp, b _ _ ?_ h2, h3, i0, by omega⟩
  intro e
  subst e
  rw [h1] at h2
  have e := List.map_eq_cons_iff.mp (HO.lst.inj (Option.some.inj h2)).symm
  obtain ⟨_, _, _, q, _⟩ := e
  cases q
theorem ok_pick {f fD : Addr} {fd fdD : FuncData} (F : Fun K "_law_pick" "_law_pick" sPick f fd) (B : Bi mg) (FD : Fun K "_law_draw" "_law_draw" sDraw fD fdD) (bD : Binds K fdD ["_law_pen_here", "_law_many"] []) (mD : mg "_law_draw" = some (.ref fD)) :
    FnOk P w K mg base CX0 2 f fd ["_law_pen_here", "_law_some"] spPick := by
  have GD : FnOk P w K mg base CX0 1 fD fdD ["_law_pen_here", "_law_many"] spDraw := ok_draw FD B
  refine F.ok scPick (fun vs H Q E h => ?_) (fun cdv A outer s H vs Q E hr h => ?_)
  · obtain ⟨p, l, q, cs, n, xs, rfl, _⟩ := h
    rfl
  · obtain ⟨p, l, q, cs, n, xs, rfl, hP, hq, nqp, x0, x1, n1, k⟩ := h
    refine ⟨_, pss_one (ps_ret (pe_ix ix_list (pv 1) (pe_call GD hr rfl mD FD.kp bD .nil pass0 (pa_cons (pv 0) (pa_cons (pe_callB call_len_seq (by rfl) B.len PySem.boot_len (pa_cons (pv 1) pa_nil)) pa_nil))) (fun _ _ => rfl))), ?_⟩
    refine ⟨_, rfl, _, rfl, _, rfl, q, _, rfl, .inl (SqL.of hq), p, l, cs, n, _, rfl, hP, by omega, by omega, n1, fun d i g H' d0 d1 i0 i1 hp b => ?_⟩
    obtain ⟨j, rfl⟩ : ∃ j : Nat, d = j := ⟨d.toNat, by omega⟩
    have hj : j < xs.length := by omega
    exact ⟨q, xs, _, xs[j], rfl, rfl, SqL.of (b _ _ nqp hq), atI_nat (by simp [hj]), k j _ _ (by simp [hj]) (hP.next i0 i1 hp b) b⟩
theorem scPen : FnScope ["_law_script"] ["_law_script"] (defScope sPen) := ⟨rfl, rfl, rfl, by decide +kernel, rfl, by decide +kernel, by decide +kernel⟩
def spPen (K : PySem.W.Frag) : Sp := fun vs H Q _ => ∃ (a : Addr) (ns : List Int), vs = [.ref a] ∧ SqL K H a (ns.map V.int) ∧ ns.length ≤ 63 ∧ ∀ (p l : Addr) (cs : List Int) (H' : Hp), Pen H' p l cs 0 → Same H H' → Q (.ref p) H'
theorem ok_pen {f : Addr} {fd : FuncData} (F : Fun K "_law_pen" "_law_pen" sPen f fd) (mL : mg "list" = none) : FnOk P w K mg base CX0 1 f fd ["_law_script"] (spPen K) := by
  refine F.ok scPen (fun vs H Q E h => ?_) (fun cdv A outer s H vs Q E hr h => ?_)
  · obtain ⟨a, ns, rfl, _⟩ := h
    rfl
  · obtain ⟨a, ns, rfl, hS, hz, k⟩ := h
    refine ⟨_, pss_one (ps_ret (pe_lst (pa_cons (pe_callTy call_list_of (by rfl) mL (by decide +kernel) (pa_cons (pe_slice sl_list (pv 0) po_none (po_some pe_int)) pa_nil)) (pa_cons pe_int (pa_cons pe_int pa_nil))))), ?_⟩
    refine ⟨_, rfl, _, rfl, a, _, rfl, hS, fun q hq => ?_⟩
    refine ⟨q, _, rfl, .inl (SqL.of upd_same), fun l hl => ⟨(by show 3 ≤ sizeLine; decide), fun p hp => ?_⟩⟩
    have nql : q ≠ l := ne_of_none upd_same hl
    have nlp : l ≠ p := ne_of_none upd_same hp
    have hHl : H l = none := by rw [upd_ne nql.symm] at hl; exact hl
    have hHp : H p = none := by
      have h1 : p ≠ l := nlp.symm
      rw [upd_ne h1] at hp
      have h2 : p ≠ q := fun e => by rw [e, upd_same] at hp; cases hp
      rw [upd_ne h2] at hp
      exact hp
    refine k p l _ _ ⟨0, 0, upd_same, Eq.trans (upd_ne nlp) (Eq.trans upd_same (congrArg (fun z => some (HO.lst z)) (cut_ints ns none (some 63)).choose_spec.1)), Nat.le_trans (cut_ints ns none (some 63)).choose_spec.2 hz, Int.le_refl _, Int.le_refl _⟩ fun b o e => ?_
    rw [upd_ne (ne_of_none e hHp), upd_ne (ne_of_none e hHl), upd_ne (ne_of_none e hq)]
    exact e
end
end Sj
namespace Sj
open PySem L2 Sup
open NdefX (NF NScope ncx envF startF nscope_by)
abbrev sInv : Stmt := inClass (top 3) 0
abbrev sIsName : Stmt := top 16
abbrev sLegI : Stmt := inClass (top 18) 1
abbrev sDrvI : Stmt := inClass (top 19) 1
abbrev sLisI : Stmt := inClass (top 20) 1
theorem strLen (a b : Str) : (a ++ b).length = a.length + b.length := by
  exact strLen_append a b
section
variable {P : Program} {w : World} {K : PySem.W.Frag} {mg : Str → Option Value} {base : Heap}
theorem scInv : NScope ["self", "reason", "__class__"] ["self", "reason"] ["__class__"] (defScope sInv) := nscope_by (by decide +kernel)
/-- InvalidFrame(reason), reason a text -/
def spInv (K : PySem.W.Frag) (C : Addr) : Sp := fun vs H Q _ => ∃ (a : Addr) (z : Str), vs = [.ref a, .str z] ∧ (reprText z).length ≤ 1000 ∧ H a = some (exo a C none) ∧
  ∀ (dx : Addr), H dx = none → dx ≠ a → Q .non (upd (upd H dx (exd dx [("reason", .str z)])) a (exo a C (some dx)))
structure ExT (P : Program) (K : PySem.W.Frag) (mg : Str → Option Value) (C : Addr) (fld : Str) : Prop where
  sup : SupT P K mg C
  oex : OexC K C
  hm : PySem.W.ks_superIn K C C "__init__" = some (some (.builtin "ValueError.__init__"))
  hB : PySem.W.subIn K (.ref C) (.type "ValueError") = some true
  hs : PySem.W.mroIn K C (.ref C) = some true
  no : PySem.W.findIn K (.ref C) fld = some none
theorem ok_inv {f c cc C : Addr} {fd : FuncData} (F : FunS P K "__init__" "InvalidFrame.__init__" sInv f fd c cc C) (T : ExT P K mg C "reason") : FnOk P w K mg base CX0 1 f fd ["self", "reason"] (spInv K C) := by
  refine fn_super F scInv (fun vs H Q E h => ?_) (fun A outer s H vs Q E hr h s1 I => ?_)
  · obtain ⟨a, z, rfl, _⟩ := h
    rfl
  · obtain ⟨a, z, rfl, hz, ha, k⟩ := h
    refine super_exc (me := "self") (x := a) (C := C) (atS_of F rfl rfl rfl rfl ⟨_, rfl, rfl⟩) T.sup T.oex rfl T.hm T.hB T.hs
      (pa_cons (pe_joined (.cons pe_str (.cons (pe_fmtR (pv 1)) .nil))) pa_nil) (pss_one (ps_ost (pv 0) (pv 1))) I rfl ha ?_ rfl rfl rfl rfl rfl
    refine ⟨_, rfl, by decide +kernel, _, rfl, .inl ⟨z, rfl, Nat.le_trans hz (by decide), _, rfl, ?_, by show 1 ≤ 1000; decide, ha, ?_⟩⟩
    · have e1 : ((Str.empty ++ ("invalid frame: " : Str)) ++ reprText z).length ≤ 15 + (reprText z).length := by
        rw [strLen]
        exact Nat.add_le_add_right (by decide +kernel) _
      exact Nat.le_trans e1 (Nat.le_trans (Nat.add_le_add_left hz 15) (by decide))
    · exact ⟨_, rfl, _, rfl, a, C, rfl, T.oex, T.no, .inl ⟨ha, fun dx hd hne => k dx hd hne⟩⟩
end
end Sj
namespace Sj
open PySem L2 Sup
open NdefX (NF NScope ncx envF startF nscope_by)
open C8 (pss_cut tCut)
def lettersS : Str := "abcdefghijklmnopqrstuvwxyz"
def reservedV : List V := [.str "ground", .str "power", .str "nothing"]
/-- whether a text is a name -/
def isName (z : Str) : Bool := decide ((1 : Int) ≤ z.length) && decide ((z.length : Int) ≤ 8) && !inV (.str z) reservedV && z.cps.toList.all fun c => decide (c ∈ lettersS.cps.toList)
structure NmT (K : PySem.W.Frag) (mg : Str → Option Value) : Prop where
  isi : mg "isinstance" = none
  str : mg "str" = none
  len : mg "len" = none
  all : mg "all" = none
  letters : ∃ t, mg "LETTERS" = some (.str lettersS t)
  longest : ∃ t, mg "LONGEST" = some (.int 8 t)
  reserved : ∃ a, mg "RESERVED" = some (.ref a) ∧ ∀ H, SqT K H a reservedV
def spIsName (K : PySem.W.Frag) : Sp := fun vs H Q _ => ∃ x : V, vs = [x] ∧
  ((∃ z : Str, x = .str z ∧ z.length ≤ 1000 ∧ ∀ H', Same H H' → Q (.bl (isName z)) H') ∨
   ∃ t : String, TyX K H x (.type t) ∧ kitB t "str" = some false ∧ Q (.bl false) H)
section
variable {P : Program} {w : World} {K : PySem.W.Frag} {mg : Str → Option Value} {base : Heap}
theorem scIsName : FnScope ["value", "sign"] ["value"] (defScope sIsName) := ⟨rfl, rfl, rfl, by decide +kernel, rfl, by decide +kernel, by decide +kernel⟩
theorem ok_isname {f : Addr} {fd : FuncData} (F : Fun K "is_name" "is_name" sIsName f fd) (T : NmT K mg) : FnOk P w K mg base CX0 1 f fd ["value"] (spIsName K) := by
  obtain ⟨tL, gL⟩ := T.letters
  obtain ⟨tN, gN⟩ := T.longest
  obtain ⟨aR, gR, hR⟩ := T.reserved
  refine F.ok scIsName (fun vs H Q E h => ?_) (fun cdv A outer s H vs Q E hr h => ?_)
  · obtain ⟨x, rfl, _⟩ := h
    rfl
  · obtain ⟨x, rfl, h⟩ := h
    refine ⟨_, pss_cons
      (ps_if (PW.pt (pw_or (pt_not (pt_val (pe_callB call_isi (by rfl) T.isi (by decide +kernel) (pa_cons (pv 0) (pa_cons (pe_bltn (by rfl) T.str (by decide +kernel) (v := .ty "str") rfl) pa_nil)))))
          (pw_or1 (pt_not (pt_chain op_le op_le pe_int (pe_callB call_len_str (by rfl) T.len PySem.boot_len (pa_cons (pv 0) pa_nil)) (pe_glob rfl gN (v := .int 8) ⟨_, rfl⟩))))))
        (pss_one (ps_ret pe_bl)) pss_nil)
      (pss_one (ps_ret (pe_and (pe_cmpR op_notIn_seq (pv 0) (pe_glob rfl gR (v := .ref aR) rfl) (by rfl))
        (pe_one (pe_callB (cr_all rfl) (by rfl) T.all (by decide +kernel) (pa_cons
          (pe_lc (own := [("sign", 1)]) (g := gName 1) (tt := tYes) rfl scIsName.nd (pi_str (pv 0)) (blkOk_by (N := ["value", "sign"]) (sc := defScope sIsName) (by decide +kernel))
            (fun _ _ _ _ _ => pg_name (i := 1) scIsName.nd rfl (Or.inl rfl)) (fun _ _ _ _ _ => pts_nil) (fun _ _ _ _ _ => pe_cmpR op_in_sign (pv 1) (pe_glob rfl gL (v := .str lettersS) ⟨_, rfl⟩) (by rfl))) pa_nil)))))), ?_⟩
    rcases h with ⟨z, rfl, hz, k⟩ | ⟨t, ht, hk, k⟩
    · have hzl : z.length ≤ sizeLine := small1000 hz |> Nat.le_of_lt
      refine ⟨_, rfl, _, _, .type "str", .type "str", true, rfl, .ty _, .base (.str _), kit_ty (by decide +kernel), _, rfl, iteF ?_⟩
      refine ⟨_, rfl, _, rfl, hzl, _, _, rfl, rfl, _, rfl, ?_⟩
      have e0 : isName z = (decide ((1 : Int) ≤ z.length) && decide ((z.length : Int) ≤ 8) && !inV (.str z) reservedV && z.cps.toList.all fun c => decide (c ∈ lettersS.cps.toList)) := rfl
      by_cases h1 : (1 : Int) ≤ z.length
      · rw [decide_eq_true h1]
        refine iteT ⟨_, _, rfl, rfl, _, rfl, ?_⟩
        by_cases h2 : (z.length : Int) ≤ 8
        · rw [decide_eq_true h2]
          refine iteF ⟨_, rfl, aR, _, rfl, .inr (hR _), rfl, rfl, _, rfl, ?_⟩
          rw [decide_eq_true h1, decide_eq_true h2] at e0
          cases h3 : inV (.str z) reservedV with
          | true =>
            rw [h3] at e0
            refine iteF ?_
            rw [show isName z = false from e0] at k
            exact k _ (Same.refl _)
          | false =>
            rw [h3] at e0
            refine iteT ?_
            refine ⟨_, rfl, z, rfl, fun D hD => lc_it walk_str (fun i H' => Same H H' ∧ H' D = some (.lst (((z.cps.toList.take i).map fun c => decide (c ∈ lettersS.cps.toList)).map V.bl))) ⟨?_, ?_⟩ (fun _ _ _ _ => True.intro) ?_ ?_⟩
            · exact fun b o e => by rw [upd_ne (ne_of_none e hD)]; exact e
            · rw [upd_same]; rfl
            · rintro i x H1 H2 hi ⟨s1, d1⟩ ⟨rfl, c, hc, rfl⟩
              refine ⟨rfl, ?_⟩
              unfold tYes
              dsimp only
              rw [if_pos rfl]
              refine ⟨_, rfl, c, lettersS, rfl, rfl, _, d1, ?_, ?_, ?_⟩
              · rw [List.length_map, List.length_map, List.length_take]
                exact Nat.lt_of_le_of_lt (Nat.min_le_right _ _) (Nat.lt_of_le_of_lt (show z.cps.toList.length ≤ 1000 from hz) (by decide))
              · exact fun b o e => by rw [upd_ne (ne_of_none e hD)]; exact s1 _ _ e
              · rw [upd_same]
                have hc' : z.cps.toList[i]? = some c := by rw [Array.getElem?_toList]; exact hc
                rw [List.take_add_one, hc', List.map_append, List.map_append]
                rfl
            · rintro H1 ⟨s1, d1⟩
              refine ⟨D, (z.cps.toList.take z.cps.size).map (fun c => decide (c ∈ lettersS.cps.toList)), rfl, SqL.of d1, ?_⟩
              have e2 : (z.cps.toList.take z.cps.size) = z.cps.toList := List.take_of_length_le (by rw [Array.length_toList]; exact Nat.le_refl _)
              have e1 : List.all ((z.cps.toList.take z.cps.size).map (fun c => decide (c ∈ lettersS.cps.toList))) id = z.cps.toList.all fun c => decide (c ∈ lettersS.cps.toList) := by
                rw [e2, List.all_map]; rfl
              have e3 : isName z = List.all ((z.cps.toList.take z.cps.size).map (fun c => decide (c ∈ lettersS.cps.toList))) id := by
                rw [e0, e1]; simp
              show Q (.bl (List.all _ id)) H1
              rw [← e3]
              exact k _ s1
        · rw [decide_eq_false h2]
          rw [decide_eq_false h2, Bool.and_false] at e0
          rw [show isName z = false from by rw [e0]; rfl] at k
          exact iteT (k _ (Same.refl _))
      · rw [decide_eq_false h1] at e0 ⊢
        rw [show isName z = false from e0] at k
        exact iteF ⟨_, rfl, iteT (k _ (Same.refl _))⟩
    · refine ⟨_, rfl, _, _, .type t, .type "str", false, rfl, .ty _, ht, kit_ty hk, _, rfl, iteT ?_⟩
      exact iteT k
end
end Sj
namespace Sj
open PySem L2 Sup
open NdefX (NF NScope ncx envF startF nscope_by)
open C8 (pss_cut tCut)
/-- a leg's attributes -/
def legF (z : Str) : List (Str × V) := putF "name" (.str z) []
theorem legF_name (z : Str) : (legF z).lookup ("name" : Str) = some (.str z) := by
  unfold legF
  rw [lookup_putF, if_pos rfl]
def errH (H H' : Hp) (d : Addr) (fld : Str) (v : V) : Prop := H d = none ∧ H' d = some (.xd [(fld, v)]) ∧ Same H H'
/-- X.__init__(self, name) of a leg's class: the wish of an error -/
def spLegI (K : PySem.W.Frag) (CI C : Addr) : Sp := fun vs H Q E => ∃ (p dx : Addr) (x : V), vs = [.ref p, x] ∧ H p = some (.ins C dx []) ∧
  ((∃ z : Str, x = .str z ∧ z.length ≤ 1000 ∧ (isName z = true → ∀ H', H' p = some (.ins C dx (legF z)) → But H H' p → Q .non H') ∧
      (isName z = false → ∀ d H', errH H H' d "reason" (.str "name") → E (.ref CI) (some d) H')) ∨
   ∃ t : String, TyX K H x (.type t) ∧ kitB t "str" = some false ∧ ∀ d H', errH H H' d "reason" (.str "name") → E (.ref CI) (some d) H')
structure LgT (P : Program) (K : PySem.W.Frag) (mg : Str → Option Value) (CI fI f n : Addr) : Prop where
  ex : ExT P K mg CI "reason"
  iC : PySem.W.findIn K (.ref CI) "__init__" = some (some (.ref fI))
  tI : PySem.W.typeIn K (.ref fI) = some (.type "function")
  mI : mg "InvalidFrame" = some (.ref CI)
  mN : mg "is_name" = some (.ref n)
structure LegC (K : PySem.W.Frag) (C : Addr) : Prop where
  cl : Cls K C
  nN : NoAttr K C "name"
section
variable {P : Program} {w : World} {K : PySem.W.Frag} {mg : Str → Option Value} {base : Heap}
theorem scLegI : FnScope ["self", "name"] ["self", "name"] (defScope sLegI) := ⟨rfl, rfl, rfl, by decide +kernel, rfl, by decide +kernel, by decide +kernel⟩
theorem ok_legI {f fI fN CI C c cc : Addr} {fd fdI fdN : FuncData} (F : Fun K "__init__" "Leg.__init__" sLegI f fd) (T : LgT P K mg CI fI f fN) (NT : NmT K mg) (LC : LegC K C)
    (FN : Fun K "is_name" "is_name" sIsName fN fdN) (bN : Binds K fdN ["value"] []) (FI : FunS P K "__init__" "InvalidFrame.__init__" sInv fI fdI c cc CI) (bI : Binds K fdI ["self", "reason"] []) :
    FnOk P w K mg base (L2.CX P w) 3 f fd ["self", "name"] (spLegI K CI C) := by
  have GN : FnOk P w K mg base CX0 1 fN fdN ["value"] (spIsName K) := ok_isname FN NT
  have GI : FnOk P w K mg base CX0 1 fI fdI ["self", "reason"] (spInv K CI) := ok_inv FI T.ex
  refine F.okX scLegI (fun vs H Q E h => ?_) (fun cdv A outer s H vs Q E hr h => ?_)
  · obtain ⟨p, dx, x, rfl, _⟩ := h
    rfl
  · obtain ⟨p, dx, x, rfl, hp, h⟩ := h
    have hr1 : Room 1 _ := hr.mono (by decide)
    refine ⟨_, pss_cons (ps_if (pt_not (pt_val (pe_call GN hr1 rfl T.mN FN.kp bN .nil pass0 (pa_cons (pv 1) pa_nil))))
        (pss_one (ps_raise rfl (takes_of rfl rfl rfl rfl) (pmk_oex T.ex.oex T.iC T.tI GI hr bI .nil pass0 rfl T.mI (pa_cons pe_str pa_nil)))) pss_nil)
      (pss_one (ps_fld (pv 0) (pv 1) rfl)), ?_⟩
    have fin : ∀ H1, Same H H1 → (∀ d H', errH H H' d "reason" (.str "name") → E (.ref CI) (some d) H') →
        tMkO CI (spInv K CI) [] (tCons (tC (.str "name")) tNil) (start ["self", "name"] [.ref p, x]) H1 fun cls d H' => E cls d H' := fun H1 s1 k => by
      refine ⟨by show 1 ≤ 1000; decide, fun a ha => ⟨a, "name", rfl, by decide +kernel, upd_same, fun d hd hda => ⟨rfl, d, [("reason", .str "name")], upd_same, ?_, ?_, ?_⟩⟩⟩
      · rw [upd_ne hda, upd_same]
      · rw [upd_ne hda] at hd
        exact hd
      · refine k d _ ⟨?_, upd_same, fun b o e => ?_⟩
        · rw [upd_ne hda] at hd
          exact s1.free hd
        · rw [upd_ne hda] at hd
          have e1 := s1 _ _ e
          have nbd : b ≠ d := ne_of_none e1 hd
          have nba : b ≠ a := ne_of_none e1 ha
          rw [upd_ne nbd, del_ne nba, upd_ne nba, upd_ne nbd, upd_ne nba]
          exact e1
    rcases h with ⟨z, rfl, hz, k1, k2⟩ | ⟨t, ht, hk, k2⟩
    · refine ⟨_, rfl, _, rfl, .inl ⟨z, rfl, hz, fun H1 s1 => ⟨_, rfl, ?_⟩⟩⟩
      cases hn : isName z with
      | true =>
        refine iteF ⟨_, rfl, _, rfl, p, C, dx, _, rfl, s1 _ _ hp, LC.cl, LC.nN, by show 0 < 1000; decide, ?_⟩
        exact k1 hn _ upd_same fun b o hb e => by rw [upd_ne hb]; exact s1 _ _ e
      | false => exact iteT (fin H1 s1 (k2 hn))
    · refine ⟨_, rfl, _, rfl, .inr ⟨t, ht, hk, ⟨_, rfl, ?_⟩⟩⟩
      exact iteT (fin H (Same.refl _) k2)
end
end Sj
namespace Sj
open PySem L2 Sup
open NdefX (NF NScope ncx envF startF nscope_by)
open C8 (pss_cut tCut)
structure SubT (P : Program) (K : PySem.W.Frag) (mg : Str → Option Value) (C f : Addr) : Prop where
  sup : SupT P K mg C
  hm : PySem.W.ks_superIn K C C "__init__" = some (some (.ref f))
  tf : PySem.W.typeIn K (.ref f) = some (.type "function")
  ff : PySem.W.fnIn K f = true
  hs : PySem.W.mroIn K C (.ref C) = some true
section
variable {P : Program} {w : World} {K : PySem.W.Frag} {mg : Str → Option Value} {base : Heap}
theorem scDrvI : NScope ["self", "name", "__class__"] ["self", "name"] ["__class__"] (defScope sDrvI) := nscope_by (by decide +kernel)
theorem scLisI : NScope ["self", "name", "__class__"] ["self", "name"] ["__class__"] (defScope sLisI) := nscope_by (by decide +kernel)
theorem ok_drvI {fL f CI C c cc : Addr} {fd fdL : FuncData} (F : FunS P K "__init__" "Driver.__init__" sDrvI f fd c cc C) (T : SubT P K mg C fL) (bL : Binds K fdL ["self", "name"] [])
    (GL : FnOk P w K mg base (L2.CX P w) 3 fL fdL ["self", "name"] (spLegI K CI C)) : FnOk P w K mg base (L2.CX P w) 4 f fd ["self", "name"] (spLegI K CI C) := by
  refine fn_super F scDrvI (fun vs H Q E h => ?_) (fun A outer s H vs Q E hr h s1 I => ?_)
  · obtain ⟨p, dx, x, rfl, _⟩ := h
    rfl
  · obtain ⟨p, dx, x, rfl, hp, h⟩ := h
    refine super_own (me := "self") (x := p) (C := C) (E := E) (atS_of F rfl rfl rfl rfl ⟨_, rfl, rfl⟩) T.sup GL hr bL .nil (passes_call (takes_of rfl rfl rfl rfl) fun _ _ _ _ h => h) rfl T.hm T.tf T.ff T.hs (by decide)
      (pa_cons (pv 1) pa_nil) pss_nil I rfl (ins_obj I hp) ?_ rfl rfl rfl rfl rfl
    exact ⟨_, rfl, p, dx, x, rfl, hp, h⟩
theorem ok_lisI {fL f CI C c cc : Addr} {fd fdL : FuncData} (F : FunS P K "__init__" "Listener.__init__" sLisI f fd c cc C) (T : SubT P K mg C fL) (bL : Binds K fdL ["self", "name"] [])
    (GL : FnOk P w K mg base (L2.CX P w) 3 fL fdL ["self", "name"] (spLegI K CI C)) : FnOk P w K mg base (L2.CX P w) 4 f fd ["self", "name"] (spLegI K CI C) := by
  refine fn_super F scLisI (fun vs H Q E h => ?_) (fun A outer s H vs Q E hr h s1 I => ?_)
  · obtain ⟨p, dx, x, rfl, _⟩ := h
    rfl
  · obtain ⟨p, dx, x, rfl, hp, h⟩ := h
    refine super_own (me := "self") (x := p) (C := C) (E := E) (atS_of F rfl rfl rfl rfl ⟨_, rfl, rfl⟩) T.sup GL hr bL .nil (passes_call (takes_of rfl rfl rfl rfl) fun _ _ _ _ h => h) rfl T.hm T.tf T.ff T.hs (by decide)
      (pa_cons (pv 1) pa_nil) pss_nil I rfl (ins_obj I hp) ?_ rfl rfl rfl rfl rfl
    exact ⟨_, rfl, p, dx, x, rfl, hp, h⟩
end
end Sj
namespace Sup
open PySem PySem.Spec PyProof.Rows L2
/-! ### x == y, x != y where x or y is an instance with an __eq__ of its own -/
section
variable {M : Model} {prog : Program} {w : World} {A : Around} {E : Value → Shared → Prop} {s : Shared} {K : PySem.W.Frag} {x C g : Addr} {ox : Obj} {od : Option Obj} {b : Value}
/-- the answer, as it is or turned -/
def ansOf (op : CmpOp) (k : Bool) : Bool := match op with
  | .NotEq => !k
  | _ => k
/-- g gives a truth value that R takes -/
def GivesB (prog : Program) (w : World) (A : Around) (E : Value → Shared → Prop) (g x : Addr) (b : Value) (R : Bool → Shared → Prop) (s : Shared) : Prop :=
  wpAny (model prog w) A (call (.ref g) [.ref x, b]) (fun v s' => ∃ k, v = .bool k ∧ R k s') E s
theorem objNe_own (X : K.In s.heap) (I : PySem.W.InstAt s.heap x ox C od) (hs : PySem.W.findIn K (.ref C) "__eq__" = some (some (.ref g))) (hf : PySem.W.isFn K (.ref g) = true) (hu : A.units < cLine) {Q : Fin → Shared → Prop}
    (h : GivesB prog w A E g x b (fun k s' => Q (.done (.ret (.bool (!k)))) s') s) : wpAny (model prog w) A (Builtin.«object.__ne__» ⟨[.ref x, b], []⟩) Q E s := by
  unfold Builtin.«object.__ne__»
  repeat (first
    | with_reducible refine wpAny_cRoomFor hu ?_
    | (refine wpAny_bind (m := callSpecialIfBound? (.ref x) (Str.ofString "__eq__") [b])
        (PySem.W.ifBound_K X I hs hf (wpAny_mono h (fun r s' hr => by
          obtain ⟨k, rfl, hq⟩ := hr
          repeat (first | exact hq | exact wpAny_pure hq | exact wpAny_truthy_bool hq | (refine wpAny_bind (m := truthy (.bool _)) (wpAny_truthy_bool ?_)) | wp_step)) fun _ _ e => e)))
    | wp_step)
theorem ifBound_objNe {args : List Value} {Q : Option Value → Shared → Prop} (X : K.In s.heap) (I : PySem.W.InstAt s.heap x ox C od) (hs : PySem.W.findIn K (.ref C) "__ne__" = some (some (.builtin "object.__ne__")))
    (h : wpAny M A (call (.builtin "object.__ne__") (.ref x :: args)) (fun v => Q (some v)) E s) : wpAny M A (callSpecialIfBound? (.ref x) "__ne__" args) Q E s := by
  simp only [callSpecialIfBound?, bindSpecialIfBound?]
  refine wpAny_holding (wpAny_bind (wpAny_bind (wpAny_bind (I.type.here ((PySem.W.looks_findIn X hs).here ?_)))))
  refine wpAny_bind (wpAny_askSetting (wpAny_ite ?_))
  have fin : wpAny M A (call (.builtin "object.__ne__") ([.ref x] ++ args) >>= fun v => pure (some v)) Q E s := wpAny_bind (wpAny_mono h (fun v s' h' => wpAny_pure h') fun _ _ h' => h')
  split
  · exact wpAny_bind (wpAny_of_eq (F.cmp_object.ne.bind _) (wpAny_pure (by exact fin)))
  · exact wpAny_tryCatch (wpAny_bind (wpAny_of_eq (F.cmp_object.ne.bind _) (wpAny_pure (by exact fin))))
/-- the instance's own answer -/
theorem try_own {op : CmpOp} (hop : op = .Eq ∨ op = .NotEq) (X : K.In s.heap) (I : PySem.W.InstAt s.heap x ox C od) (hs : PySem.W.findIn K (.ref C) "__eq__" = some (some (.ref g))) (hf : PySem.W.isFn K (.ref g) = true)
    (hn : PySem.W.findIn K (.ref C) "__ne__" = some (some (.builtin "object.__ne__"))) (hm : PySem.W.mroIn K C (.type "object") = some true) (hu : A.in1.units < cLine) {R : Bool → Shared → Prop}
    (h : ∀ A', A' = A ∨ A' = A.in1 → GivesB prog w A' E g x b R s) :
    wpAny (model prog w) A (tryCompare (.ref x) (cmpInfo op).2.1 b) (fun r s' => ∃ k, r = some (.bool (ansOf op k)) ∧ R k s') E s := by
  rcases hop with rfl | rfl
  · unfold tryCompare
    refine wpAny_bind (PySem.W.ifBound_K X I hs hf (wpAny_mono (h A (.inl rfl)) (fun v s' hv => ?_) fun _ _ e => e))
    obtain ⟨k, rfl, hq⟩ := hv
    exact wpAny_pure ⟨k, rfl, hq⟩
  · unfold tryCompare
    refine wpAny_bind (ifBound_objNe X I hn (wpAny_call (codeAny_call_builtin F.cmp_object.ne.plain F.cmpEntry_ne (PySem.W.check_slot F.cmpKind_ne F.cmpSplit_ne (I.type.andThen (PySem.W.looks_mroIn X hm)) (F.cmpArgs_ne _ _)
      (objNe_own X I hs hf hu (wpAny_mono (h A.in1 (.inr rfl)) (fun v s' hv => ?_) fun _ _ e => e))))))
    obtain ⟨k, rfl, hq⟩ := hv
    exact ⟨k, rfl, wpAny_pure ⟨k, rfl, hq⟩⟩
theorem rc_own_left {op : CmpOp} (hop : op = .Eq ∨ op = .NotEq) {tb : Value} {Q : Value → Shared → Prop} (hu : A.units < cLine) (X : K.In s.heap) (I : PySem.W.InstAt s.heap x ox C od) (hb : PySem.W.Looks (model prog w) s.heap (typeOf b) tb) (hn : PySem.W.notFirst K C tb = true)
    {R : Bool → Shared → Prop} (one : wpAny (model prog w) A (tryCompare (.ref x) (cmpInfo op).2.1 b) (fun r s' => ∃ k, r = some (.bool (ansOf op k)) ∧ R k s') E s) (h : ∀ k s', R k s' → Q (.bool (ansOf op k)) s') :
    wpAny (model prog w) A (richCompare op (.ref x) b) Q E s := by
  unfold richCompare
  simp only [oneThing_ref]
  refine wpAny_holding (wpAny_bind (wpAny_cRoomFor hu ?_))
  refine wpAny_bind (I.type.here (wpAny_bind (hb.here ?_)))
  split
  · rename_i q
    have e : PySem.W.subIn K tb (.ref C) = some false := by
      rcases Bool.or_eq_true_iff.mp hn with e | e
      · rw [beq_iff_eq.mp e] at q; simp at q
      · exact beq_iff_eq.mp e
    refine wpAny_bind ((PySem.W.looks_subIn X e).here ?_)
    simp only [Bool.false_eq_true, if_false]
    refine wpAny_bind (wpAny_mono one (fun r s' z => ?_) fun _ _ e => e)
    obtain ⟨k, rfl, hq⟩ := z
    exact wpAny_pure (h _ _ hq)
  · refine wpAny_bind (wpAny_pure ?_)
    simp only [Bool.false_eq_true, if_false]
    refine wpAny_bind (wpAny_mono one (fun r s' z => ?_) fun _ _ e => e)
    obtain ⟨k, rfl, hq⟩ := z
    exact wpAny_pure (h _ _ hq)
/-- the right one's class is below the left one's: it is asked first -/
theorem rc_own_right {op : CmpOp} (hop : op = .Eq ∨ op = .NotEq) {a' D : Addr} {oy : Obj} {od' : Option Obj} {Q : Value → Shared → Prop} (hu : A.units < cLine) (X : K.In s.heap) (I : PySem.W.InstAt s.heap x ox C od) (J : PySem.W.InstAt s.heap a' oy D od')
    (hne : D ≠ C) (hsub : PySem.W.subIn K (.ref D) (.ref C) = some true)
    {R : Bool → Shared → Prop} (one : wpAny (model prog w) A (tryCompare (.ref a') (cmpInfo op).2.1 (.ref x)) (fun r s' => ∃ k, r = some (.bool (ansOf op k)) ∧ R k s') E s) (h : ∀ k s', R k s' → Q (.bool (ansOf op k)) s') :
    wpAny (model prog w) A (richCompare op (.ref x) (.ref a')) Q E s := by
  have hr : (cmpInfo op).2.2 = (cmpInfo op).2.1 := by rcases hop with rfl | rfl <;> rfl
  unfold richCompare
  simp only [oneThing_ref]
  refine wpAny_holding (wpAny_bind (wpAny_cRoomFor hu ?_))
  refine wpAny_bind (I.type.here (wpAny_bind (J.type.here ?_)))
  split
  · refine wpAny_bind ((PySem.W.looks_subIn X hsub).here ?_)
    simp only [if_true]
    rw [hr]
    refine wpAny_bind (wpAny_mono one (fun r s' z => ?_) fun _ _ e => e)
    obtain ⟨k, rfl, hq⟩ := z
    exact wpAny_bind (wpAny_rule (wpAny_pure (h _ _ hq)))
  · rename_i q
    exact absurd (show (Value.ref C != Value.ref D) = true by simp [Ne.symm hne]) q
end
/-- what == asks of the class at C -/
structure EqC (X : Cx) (C : Addr) (sp : Sp) : Prop where
  ex : ∃ (g : Addr) (fd : FuncData) (k : Nat), PySem.W.findIn X.K (.ref C) "__eq__" = some (some (.ref g)) ∧ PySem.W.isFn X.K (.ref g) = true ∧ FnOk X.prog X.w X.K X.mg X.base CX0 k g fd ["self", "other"] sp ∧ Room (k + 1) X.A ∧ Binds X.K fd ["self", "other"] []
  ne : PySem.W.findIn X.K (.ref C) "__ne__" = some (some (.builtin "object.__ne__"))
  ob : PySem.W.mroIn X.K C (.type "object") = some true
def rOwnE (K : PySem.W.Frag) (op : CmpOp) (S : Addr → Prop) (spE : Addr → Sp) : R2 := fun x y H Q => ∃ a C dx fs, x = .ref a ∧ H a = some (.ins C dx fs) ∧ S C ∧
  ((∃ t, TyX K H y t ∧ PySem.W.notFirst K C t = true ∧ spE C [x, y] H (fun z H' => ∃ k, z = .bl k ∧ Q (.bl (ansOf op k)) H') E0) ∨
   ∃ b D dy gs, y = .ref b ∧ H b = some (.ins D dy gs) ∧ S D ∧ D ≠ C ∧ PySem.W.subIn K (.ref D) (.ref C) = some true ∧ spE D [y, x] H (fun z H' => ∃ k, z = .bl k ∧ Q (.bl (ansOf op k)) H') E0)
section
variable {X : Cx} {pins : List (Addr × Obj)} {σ : L2.St} {H : Hp} {s : Shared}
theorem gives_own {A : Around} {g a : Addr} {fd : FuncData} {k : Nat} {sp : Sp} {y : V} {b : Value} {Q' : Bool → Hp → Prop} {E' : Value → Shared → Prop} (F : FnOk X.prog X.w X.K X.mg X.base CX0 k g fd ["self", "other"] sp) (hr : Room k A) (hb : Binds X.K fd ["self", "other"] []) (e0 : Env0 X.prog X.w X.K X.mg X.base A X.stack s H)
    (I : Inv X pins σ H s) (ry : RelV y b) (h : sp [.ref a, y] H (fun z H' => ∃ k, z = .bl k ∧ Q' k H') E0) :
    GivesB X.prog X.w A E' g a b (fun k s' => ∃ H', Inv X pins σ H' s' ∧ Q' k H') s := by
  refine wpAny_call (codeAny_mono (F.run A X.stack s H ⟨[.ref a, b], []⟩ [.ref a, b] [.ref a, y] _ E0 hr e0 (by simpa using hb s [.ref a, b] I.kIn rfl) (.cons rfl (.cons ry .nil)) h) fun r s' hq => ?_)
  cases r with
  | error e => exact False.elim hq
  | ok fl =>
    cases fl with
    | ret u =>
      obtain ⟨v, H', I', rv, k, ev, q⟩ := I.after hq
      subst ev
      exact ⟨k, rv, H', I', q⟩
    | next => exact False.elim hq
    | brk => exact False.elim hq
    | cont => exact False.elim hq
theorem op_ownE {op : CmpOp} (hop : op = .Eq ∨ op = .NotEq) {S : Addr → Prop} {spE : Addr → Sp} (T : ∀ C, S C → EqC X C (spE C)) : OpR X (compareOp op) (rOwnE X.K op S spE) := by
  intro pins s σ H x y v u Q I rx ry h
  obtain ⟨a, C, dx, fs, rfl, ha, hS, h⟩ := h
  obtain rfl : v = Value.ref a := rx
  obtain ⟨mA, O, _⟩ := ins_get I.hok ha
  obtain ⟨od, J, _⟩ := O.look
  have hcmp : compareOp op (.ref a) u = richCompare op (.ref a) u := by rcases hop with rfl | rfl <;> rfl
  rw [hcmp]
  have KX := I.kIn
  rcases h with ⟨t, ht, hn, q⟩ | ⟨b, D, dy, gs, rfl, hb, hSD, hne, hsub, q⟩
  · obtain ⟨⟨g, fd, k, h1, h2, GF, hr, hbd⟩, h3, h4⟩ := T C hS
    obtain ⟨P, KP, hP, _⟩ := kit_of I ry ht
    refine rc_own_left hop hr.units0 KX J (KP.ty _ _ KX hP) hn (R := fun k s' => ∃ H', Inv X pins σ H' s' ∧ Q (.bl (ansOf op k)) H') (try_own hop KX J h1 h2 h3 h4 (Room.in1 hr).units0 fun A' hA => ?_) fun k s' ⟨H', I', qq⟩ => ⟨.bl (ansOf op k), H', I', rfl, qq⟩
    rcases hA with rfl | rfl
    · exact gives_own GF (hr.mono (Nat.le_succ _)) hbd I.env0 I ry q
    · exact gives_own GF (Room.in1 hr) hbd I.env0.in1 I ry q
  · obtain rfl : u = Value.ref b := ry
    obtain ⟨⟨g, fd, k, h1, h2, GF, hr, hbd⟩, h3, h4⟩ := T D hSD
    obtain ⟨mB, O', _⟩ := ins_get I.hok hb
    obtain ⟨od', J', _⟩ := O'.look
    refine rc_own_right hop hr.units0 KX J J' hne hsub (R := fun k s' => ∃ H', Inv X pins σ H' s' ∧ Q (.bl (ansOf op k)) H') (try_own hop KX J' h1 h2 h3 h4 (Room.in1 hr).units0 fun A' hA => ?_) fun k s' ⟨H', I', qq⟩ => ⟨.bl (ansOf op k), H', I', rfl, qq⟩
    rcases hA with rfl | rfl
    · exact gives_own GF (hr.mono (Nat.le_succ _)) hbd I.env0 I (y := .ref a) rfl q
    · exact gives_own GF (Room.in1 hr) hbd I.env0.in1 I (y := .ref a) rfl q
end
end Sup
namespace Sup
open PySem PySem.Spec PyProof.Rows L2
section
variable {X : Cx}
/-- a class's own __str__ or __repr__ -/
structure StrC (X : Cx) (C : Addr) (name : Str) (sp : Sp) : Prop where
  ex : ∃ (g : Addr) (fd : FuncData) (k : Nat), PySem.W.findIn X.K (.ref C) name = some (some (.ref g)) ∧ PySem.W.isFn X.K (.ref g) = true ∧ FnOk X.prog X.w X.K X.mg X.base CX0 k g fd ["self"] sp ∧ Room (k + 3) X.A ∧ Binds X.K fd ["self"] []
def rStrOwn (S : Addr → Prop) (spS : Addr → Sp) : List V → Hp → VK → Prop := fun xs H Q => ∃ a C dx fs, xs = [.ref a] ∧ H a = some (.ins C dx fs) ∧ S C ∧ spS C [.ref a] H (fun z H' => ∃ y, z = .str y ∧ Q (.str y) H') E0
theorem gives_str {pins : List (Addr × Obj)} {σ : L2.St} {H : Hp} {s : Shared} {A : Around} {g a : Addr} {fd : FuncData} {k : Nat} {sp : Sp} {Q' : VK} {E' : Value → Shared → Prop} (F : FnOk X.prog X.w X.K X.mg X.base CX0 k g fd ["self"] sp) (hr : Room k A) (hb : Binds X.K fd ["self"] [])
    (e0 : Env0 X.prog X.w X.K X.mg X.base A X.stack s H) (I : Inv X pins σ H s) (h : sp [.ref a] H (fun z H' => ∃ y, z = .str y ∧ Q' (.str y) H') E0) :
    wpAny (model X.prog X.w) A (call (.ref g) [.ref a]) (PySem.W.StrBack (EP X pins σ Q')) E' s := by
  refine wpAny_call (codeAny_mono (F.run A X.stack s H ⟨[.ref a], []⟩ [.ref a] [.ref a] _ E0 hr e0 (by simpa using hb s [.ref a] I.kIn rfl) (.cons rfl .nil) h) fun r s' hq => ?_)
  cases r with
  | error e => exact False.elim hq
  | ok fl =>
    cases fl with
    | ret u =>
      obtain ⟨v, H', I', rv, y, ev, q⟩ := I.after hq
      subst ev
      obtain ⟨t, rfl⟩ := rv
      exact ⟨.str y, H', I', ⟨t, rfl⟩, q⟩
    | next => exact False.elim hq
    | brk => exact False.elim hq
    | cont => exact False.elim hq
theorem call_strOwn {S : Addr → Prop} {spS : Addr → Sp} (T : ∀ C, S C → StrC X C "__str__" (spS C)) : CallR X (.type "str") (rStrOwn S spS) := by
  intro pins s σ H xs us Q I r h
  obtain ⟨a, C, dx, fs, rfl, ha, hS, q⟩ := h
  obtain ⟨u, rfl, ru⟩ := r.one
  obtain rfl : u = Value.ref a := ru
  obtain ⟨g, fd, k, h1, h2, GF, hr, hb⟩ := T C hS
  obtain ⟨mA, O, _⟩ := ins_get I.hok ha
  obtain ⟨od, J, _⟩ := O.look
  have hr2 : Room k X.A.in1.in1 := ((show Room (k + 2) X.A from hr.mono (by omega)).in1).in1
  exact PySem.W.kso_call hr2.units0 I.kIn J h1 h2 (gives_str GF hr2 hb I.env0.in1.in1 I q)
end
end Sup
namespace Sj
open PySem L2 Sup
open NdefX (NF NScope ncx envF startF nscope_by)
open C8 (pss_cut tCut)
abbrev sLeg (i : Nat) : Stmt := inClass (top 18) i
abbrev sDrv (i : Nat) : Stmt := inClass (top 19) i
abbrev sLis (i : Nat) : Stmt := inClass (top 20) i
/-- a leg of the class at C with the name z stands at a -/
def LegAt (H : Hp) (a C : Addr) (z : Str) : Prop := ∃ dx, H a = some (.ins C dx (legF z))
theorem LegAt.same {H H' : Hp} {a C : Addr} {z : Str} (h : LegAt H a C z) (s : Same H H') : LegAt H' a C z := h.imp fun _ e => s _ _ e
def spDr (C : Addr) (b : Bool) : Sp := fun vs H Q _ => ∃ a z, vs = [.ref a] ∧ LegAt H a C z ∧ Q (.bl b) H
/-- the facts of a class that isinstance asks -/
structure IsiC (K : PySem.W.Frag) (C : Addr) : Prop where
  cl : Cls K C
  ca : PySem.W.findIn K (.ref C) "__class__" = some (some (.builtin "object.__class__"))
  cn : PySem.W.specialIn K (.builtin "object.__class__") "__get__" = some (some (.builtin "getset_descriptor.__get__"))
  ct : PySem.W.takesIn K (.builtin "object.__class__") = some true
  cm : PySem.W.mroIn K C (.type "object") = some true
theorem LegAt.ty {K : PySem.W.Frag} {H : Hp} {a C : Addr} {z : Str} (h : LegAt H a C z) (c : IsiC K C) : TyX K H (.ref a) (.ref C) := by
  obtain ⟨dx, e⟩ := h
  exact .base (.ins e c.cl c.ca c.cn c.ct c.cm)
/-- C's __eq__: a leg of the class at C itself, or a value that is no C -/
def spEq (K : PySem.W.Frag) (C : Addr) : Sp := fun vs H Q _ => ∃ a z y, vs = [.ref a, y] ∧ LegAt H a C z ∧
  ((∃ b z', y = .ref b ∧ LegAt H b C z' ∧ Q (.bl (decide (z = z'))) H) ∨ ∃ t, TyX K H y t ∧ PySem.W.kitOne K t (.ref C) = some false ∧ Q (.bl false) H)
structure EqT (K : PySem.W.Frag) (mg : Str → Option Value) (C : Addr) (nm : Str) : Prop where
  isi : mg "isinstance" = none
  mC : mg nm = some (.ref C)
  ic : IsiC K C
  self : PySem.W.kitOne K (.ref C) (.ref C) = some true
  nN : NoAttr K C "name"
section
variable {P : Program} {w : World} {K : PySem.W.Frag} {mg : Str → Option Value} {base : Heap}
theorem scS1 {st : Stmt} (h : defScope st = defScope (sLeg 2)) : FnScope ["self"] ["self"] (defScope st) := by
  rw [h]
  exact ⟨rfl, rfl, rfl, by decide +kernel, rfl, by decide +kernel, by decide +kernel⟩
theorem ok_drives {f C : Addr} {fd : FuncData} {st : Stmt} {q : Str} {b : Bool} {p1 p2 : Pos} {i1 : Nat} (F : Fun K "drives" q st f fd) (hs : defScope st = defScope (sLeg 2)) (hb : defBody st = [.Return (some (.Constant (.bool b) i1 p1)) p2]) :
    FnOk P w K mg base CX0 1 f fd ["self"] (spDr C b) := by
  refine F.ok (scS1 hs) (fun vs H Q E h => ?_) (fun cdv A outer s H vs Q E hr h => ?_)
  · obtain ⟨a, z, rfl, _⟩ := h
    rfl
  · obtain ⟨a, z, rfl, _, k⟩ := h
    rw [hb]
    exact ⟨_, pss_one (ps_ret pe_bl), k⟩
theorem scEqD : FnScope ["self", "other"] ["self", "other"] (defScope (sDrv 3)) := ⟨rfl, rfl, rfl, by decide +kernel, rfl, by decide +kernel, by decide +kernel⟩
theorem scEqI : FnScope ["self", "other"] ["self", "other"] (defScope (sLis 3)) := ⟨rfl, rfl, rfl, by decide +kernel, rfl, by decide +kernel, by decide +kernel⟩
theorem str_eq (z z' : Str) : decide (V.str z = V.str z') = decide (z = z') := by
  by_cases h : z = z'
  · rw [decide_eq_true h, h]; exact decide_eq_true rfl
  · rw [decide_eq_false h]; exact decide_eq_false fun e => h (V.str.inj e)
theorem ok_eqD {f C : Addr} {fd : FuncData} (F : Fun K "__eq__" "Driver.__eq__" (sDrv 3) f fd) (T : EqT K mg C "Driver") : FnOk P w K mg base CX0 1 f fd ["self", "other"] (spEq K C) := by
  refine F.ok scEqD (fun vs H Q E h => ?_) (fun cdv A outer s H vs Q E hr h => ?_)
  · obtain ⟨a, z, y, rfl, _⟩ := h
    rfl
  · obtain ⟨a, z, y, rfl, ha, h⟩ := h
    refine ⟨_, pss_one (ps_ret (pe_and (pe_callB call_isi (by rfl) T.isi (by decide +kernel) (pa_cons (pv 1) (pa_cons (pe_glob rfl T.mC (v := .ref C) rfl) pa_nil)))
      (pe_one (pe_cmpR op_eq (pe_fld (pv 0) rfl) (pe_fld (pv 1) rfl) (nomark _))))), ?_⟩
    rcases h with ⟨b, z', rfl, hb, k⟩ | ⟨t, ht, hk, k⟩
    · obtain ⟨dx, ea⟩ := id ha
      obtain ⟨dy, eb⟩ := id hb
      refine ⟨_, rfl, _, _, .ref C, .ref C, true, rfl, .own _, hb.ty T.ic, T.self, _, rfl, iteT ?_⟩
      refine ⟨_, rfl, a, C, dx, _, _, rfl, ea, T.ic.cl, T.nN, legF_name _, _, rfl, b, C, dy, _, _, rfl, eb, T.ic.cl, T.nN, legF_name _, rfl, ?_⟩
      show Q (.bl (decide (V.str z = V.str z'))) H
      rw [str_eq]
      exact k
    · exact ⟨_, rfl, _, _, t, .ref C, false, rfl, .own _, ht, hk, _, rfl, iteF k⟩
theorem ok_eqI {f C : Addr} {fd : FuncData} (F : Fun K "__eq__" "Listener.__eq__" (sLis 3) f fd) (T : EqT K mg C "Listener") : FnOk P w K mg base CX0 1 f fd ["self", "other"] (spEq K C) := by
  refine F.ok scEqI (fun vs H Q E h => ?_) (fun cdv A outer s H vs Q E hr h => ?_)
  · obtain ⟨a, z, y, rfl, _⟩ := h
    rfl
  · obtain ⟨a, z, y, rfl, ha, h⟩ := h
    refine ⟨_, pss_one (ps_ret (pe_and (pe_callB call_isi (by rfl) T.isi (by decide +kernel) (pa_cons (pv 1) (pa_cons (pe_glob rfl T.mC (v := .ref C) rfl) pa_nil)))
      (pe_one (pe_cmpR op_eq (pe_fld (pv 0) rfl) (pe_fld (pv 1) rfl) (nomark _))))), ?_⟩
    rcases h with ⟨b, z', rfl, hb, k⟩ | ⟨t, ht, hk, k⟩
    · obtain ⟨dx, ea⟩ := id ha
      obtain ⟨dy, eb⟩ := id hb
      refine ⟨_, rfl, _, _, .ref C, .ref C, true, rfl, .own _, hb.ty T.ic, T.self, _, rfl, iteT ?_⟩
      refine ⟨_, rfl, a, C, dx, _, _, rfl, ea, T.ic.cl, T.nN, legF_name _, _, rfl, b, C, dy, _, _, rfl, eb, T.ic.cl, T.nN, legF_name _, rfl, ?_⟩
      show Q (.bl (decide (V.str z = V.str z'))) H
      rw [str_eq]
      exact k
    · exact ⟨_, rfl, _, _, t, .ref C, false, rfl, .own _, ht, hk, _, rfl, iteF k⟩
end
end Sj
/-! {e for x in xs if ..}, e an int or a text (SetK), and len of such a set -/
namespace SetT
open PySem PySem.Spec PyProof.Rows L2
/-- the empty set at D -/
abbrev zeroK (P : Program) (w : World) (D : Addr) : HO := SetK P w D (fun _ => false) 0
/-- y is added to the set at D, then Nx -/
def rAdd (P : Program) (w : World) (D : Addr) (y : V) (H : Hp) (Nx : Hp → Prop) : Prop := ∃ (c : Key) (S : Key → Bool) (n : Nat), y = kV c ∧ H D = some (SetK P w D S n) ∧ n + 1 < scanBound ∧ Nx (upd H D (SetK P w D (fun j => S j || decide (j = c)) (if S c = true then n else n + 1)))
/-- one turn's reading -/
def turnT (P : Program) (w : World) (D : Addr) (g : TG) (tt : TT) (te : TE) (vs : List Nat) (σ : L2.St) (Nx : Hp → Prop) (x : V) (H : Hp) : Prop :=
  g x (wipe σ vs) H fun σ2 H2 => wipe σ2 vs = wipe σ vs ∧ tt σ2 H2 fun b H3 => if b = true then te σ2 H3 fun y H4 => rAdd P w D y H4 Nx else Nx H3
/-- all turns: W i m: ahead of turn i, m falls -/
def loopT (P : Program) (w : World) (D : Addr) (J : It) (g : TG) (tt : TT) (te : TE) (vs : List Nat) (σ : L2.St) (W : Nat → Nat → Hp → Prop) (Qd : Hp → Prop) : Prop :=
  ∀ i m H, W i m H → (J.stop i H ∧ Qd H) ∨ (J.go i H ∧ ∃ Nx : Hp → Prop, (∀ H', Nx H' → ∃ m', m' < m ∧ W (i + 1) m' H') ∧ ∀ x H', J.yld i H x H' → turnT P w D g tt te vs σ Nx x H')
def tSet (P : Program) (w : World) (wi : TI) (g : TG) (tt : TT) (te : TE) (vs : List Nat) : TE := fun σ H Q => wi σ H fun J H1 => ∀ D, H1 D = none → ∃ W : Nat → Nat → Hp → Prop, (∃ m, W 0 m (upd H1 D (zeroK P w D))) ∧ loopT P w D J g tt te vs σ W (Q (.ref D))
section
variable {X : Cx}
theorem zero_new {P : Program} {w : World} {h : Heap} : (h.push { cls := .type "set", dict := none, data := .set #[] 0 (.fresh 0 0 (!w.params.followText "set-order")) }).SetOf (mixKind P w) h.objs.size (fun _ => false) 0 :=
  ⟨_, #[], 0, _, Heap.get?_push_size _ rfl, ⟨rfl, rfl, rfl⟩, rfl, (fun e he => by simp at he), (fun k => by simp), (by decide), (by rfl), rfl⟩
/-- the loop in the block's context Y -/
theorem loop_run {Y : Cx} {elt tg iter : Expr} {ifs : List Expr} {scope : Scope} {pos : Pos} {it D : Addr} {J : It} {g : TG} {tt : TT} {te : TE} {vs : List Nat} {fp : List Addr} {tn : Nat → Heap → Prop} {σ : L2.St} {W : Nat → Nat → Hp → Prop} {Qd : Hp → Prop} {R : Result → Shared → Prop}
    (hc : Y.calm = true) (T : Turn Y.prog Y.w Y.K tg J fp it tn) (hg : PG Y tg g) (ht : PTs Y ifs tt) (he : PE Y elt te) (hl : loopT Y.prog Y.w D J g tt te vs σ W Qd)
    (xe : ∀ e s', Y.xe e s' → notedBy (model Y.prog Y.w) Y.A Y.env (fun e s' => R (.error e) s') e s')
    (stat : ∀ (σ' : L2.St) (H' : Hp) (s' : Shared), Inv Y [] σ' H' s' → (∀ b ∈ fp, H' b = none) → ∀ b ∈ fp, FpOk Y [] H' b)
    (fin : ∀ i s' H', Inv Y [] (wipe σ vs) H' s' → tn i s'.heap → (∀ b ∈ fp, H' b = none) → J.stop i H' → Qd H' → ∀ s6, Inv Y [] (wipe σ vs) H' s6 → R (.ok .next) s6)
    {i m : Nat} {H : Hp} {s : Shared} (I : Inv Y [] (wipe σ vs) H s) (st : tn i s.heap) (nf : ∀ b ∈ fp, H b = none) (hw : W i m H) :
    codeAny (model Y.prog Y.w) Y.A (.compLoop (.SetComp elt [⟨tg, iter, ifs, 0⟩] scope pos) 0 (.ref it) (.ref D) Y.env) R s := by
  refine PpSet.compLoopS_any (fun n s' => ∃ i H', Inv Y [] (wipe σ vs) H' s' ∧ tn i s'.heap ∧ (∀ b ∈ fp, H' b = none) ∧ W i n H') ?_ m ⟨i, H, I, st, nf, hw⟩
  rintro n s5 ⟨i, H5, I5, st5, n5, w5⟩
  rcases hl i n H5 w5 with ⟨stop, qq⟩ | ⟨go, Nx, hNx, step⟩
  · refine thnF (T.done Y rfl rfl rfl hc i [] s5 _ H5 (fun _ _ => False) I5 (stat _ _ _ I5 n5) st5 stop) fun r s6 ⟨hr, I6⟩ => ?_
    subst hr
    exact fin i s5 H5 I5 st5 n5 stop qq s6 I6
  · refine thnF (T.item Y rfl rfl rfl hc i [] s5 _ H5 (fun _ _ => False) I5 (stat _ _ _ I5 n5) st5 go) fun r s6 ⟨u, hr, h6⟩ => ?_
    subst hr
    refine thnF h6 fun _ s7 ⟨x, H7, I7, r7, y7, st7, n7⟩ => ?_
    have I7' := I7.pinned (stat _ _ _ I7 n7) (T.obj _ _ st7)
    refine wpAny_mono (hg.run _ s7 _ H7 x u _ I7' r7 (step x H7 y7)) (fun _ s8 ⟨σ8, H8, I8, hw8, q8⟩ => ?_) xe
    -- what stands when a turn is through
    have back : ∀ {s' : Shared} {H' : Hp}, Inv Y ([] ++ pinsAt fp s7.heap) σ8 H' s' → Nx H' → ∃ m, m < n ∧ ∃ i H', Inv Y [] (wipe σ vs) H' s' ∧ tn i s'.heap ∧ (∀ b ∈ fp, H' b = none) ∧ W i m H' := fun {s' H'} I' nx => by
      obtain ⟨m', hm, w'⟩ := hNx H' nx
      have held : ∀ b ∈ fp, ∀ o, s7.heap.get? b = some o → s'.heap.get? b = some o ∧ H' b = none := fun b hb o e => by
        have z := I'.pin (b, o) (List.mem_append_right _ (List.mem_append_right _ (mem_pinsAt hb e)))
        exact ⟨z.1, z.2.1⟩
      refine ⟨m', hm, i + 1, H', ?_, T.keep _ _ _ st7 fun b hb o e => (held b hb o e).1, fun b hb => ?_, w'⟩
      · refine (I'.unpinned (pins := [])).weak (by rw [← hw8, wipe_length]) fun j v e => ?_
        rw [← hw8] at e
        exact (wipe_some e).1
      · obtain ⟨o, e, _⟩ := T.obj _ _ st7 b hb
        exact (held b hb o e).2
    refine wpAny_mono (ht.run _ s8 σ8 H8 _ I8 q8) (fun b s9 ⟨H9, I9, q9⟩ => ?_) xe
    cases b with
    | false =>
      simp only [Bool.false_eq_true, if_false] at q9 ⊢
      exact back I9 q9
    | true =>
      simp only [if_true] at q9 ⊢
      refine wpAny_mono (he.run _ s9 σ8 H9 _ I9 q9) (fun z s10 ⟨yv, H10, I10, r10, c, S, n0, ey, hD, hz, nx⟩ => ?_) xe
      refine wpAny_mono (mt_saddK _ s10 σ8 H10 (.ref D) [yv] (.ref D) [z] (fun _ H' => Nx H') I10 rfl (.cons r10 .nil) ⟨D, c, S, n0, rfl, by rw [ey], hD, hz, nx⟩) (fun _ s11 ⟨_, H11, I11, _, q11⟩ => back I11 q11) xe
/-- the block's start, the set at D laid -/
theorem start_run {elt tg iter : Expr} {ifs : List Expr} {scope : Scope} {own : List (PySem.Str × Nat)} {pos : Pos} {J : It} {g : TG} {tt : TT} {te : TE} {pins : List (Addr × Obj)} {σ : L2.St} {s3 : Shared} {H3 : Hp} {it D : Addr} {fp : List Addr} {tn : Nat → Heap → Prop} {W : Nat → Nat → Hp → Prop} {m0 : Nat} {Q : VK}
    (hc : X.calm = true) (hN : X.N.Nodup) (ok : BlkOk X.N X.env.scope scope own) (I3 : Inv X pins σ H3 s3) (f3 : ∀ b ∈ fp, FpOk X pins H3 b ∧ b < s3.heap.objs.size) (T : Turn X.prog X.w X.K tg J fp it tn) (st3 : tn 0 s3.heap)
    (hg : ∀ (s : Shared) (H : Hp) (C : Addr) (cl : List (PySem.Str × Addr)) (fp : List Addr), PG (X.blk s H scope (compEnvC scope cl C X.env) fp) tg g) (ht : ∀ (s : Shared) (H : Hp) (C : Addr) (cl : List (PySem.Str × Addr)) (fp : List Addr), PTs (X.blk s H scope (compEnvC scope cl C X.env) fp) ifs tt)
    (he : ∀ (s : Shared) (H : Hp) (C : Addr) (cl : List (PySem.Str × Addr)) (fp : List Addr), PE (X.blk s H scope (compEnvC scope cl C X.env) fp) elt te) (w0 : W 0 m0 H3) (hl : loopT X.prog X.w D J g tt te (own.map (·.2)) σ W (Q (.ref D))) :
    codeAny (model X.prog X.w) X.A (.compStart (.SetComp elt [⟨tg, iter, ifs, 0⟩] scope pos) 0 (.ref it) (.ref D) (compEnvC scope (cellsFrom (s3.heap.objs.size + 1) scope.names (cloFrom X.env.cells scope.names [])) s3.heap.objs.size X.env))
      (compPost (model X.prog X.w) X.A X.xe none (EP X pins σ Q) (.ref D) s3.heap.objs.size) { s3 with heap := pushCells (s3.heap.push { cls := .type "dict", data := .dict #[] }) scope.names } := by
  have I4 := block_start I3 ok hN f3
  have st4 := T.keep _ _ (pushCells (s3.heap.push { cls := .type "dict", data := .dict #[] }) scope.names) st3 fun b _ o e => pushCells_keeps _ _ _ _ (Heap.get?_push_of_some _ e)
  have loop := loop_run (Y := X.blk s3 H3 scope (compEnvC scope (cellsFrom (s3.heap.objs.size + 1) scope.names (cloFrom X.env.cells scope.names [])) s3.heap.objs.size X.env) fp) (elt := elt) (iter := iter) (scope := scope) (pos := pos)
    (R := compPost (model X.prog X.w) X.A X.xe none (EP X pins σ Q) (.ref D) s3.heap.objs.size) hc T (hg _ _ _ _ _) (ht _ _ _ _ _) (he _ _ _ _ _) hl (fun _ _ z => False.elim z)
    (fun σ' H' s' I' hn b hb => ⟨hn b hb, (I'.ok.exf b hb).1, I'.ok.exfs b hb, .inl hb, fun x c e => (I'.ok.exf b hb).2 x c e, fun p hp => absurd (show p ∈ ([] : List (Addr × Obj)) ++ [] from hp) (by simp)⟩)
    (fun i s' H' I' _ _ _ qd s6 I6 => ?_) I4 st4 (fun b hb => (f3 b hb).1.1) w0
  · exact PpSet.codeAny_compStart_set loop (T.self X.A 0 _ _ _ st4 loop)
  · have I7 : Inv X pins σ H' s6 := I3.call' (ch := fp) I6.os I6.base I6.hok I6.bare fun b hb => ⟨(f3 b hb).1.2.2.2.1, (f3 b hb).1.2.1, (f3 b hb).1.2.2.2.2.1, (f3 b hb).1.2.2.2.2.2⟩
    have nC : H' s3.heap.objs.size = none := I6.free
    obtain ⟨m, hn, _⟩ := I6.loc
    obtain ⟨f0, f1, f2', f4, f5, f6⟩ := I3.fpOk (H' := H') (Nat.le_refl _) nC
    exact ⟨m, hn, fun h'' sb => ⟨.ref D, H', I7.turned (t' := s6.toks) (fun b o hb e => (sb.2 b hb).trans e) f0 f1 f4 f5 f6, rfl, qd⟩⟩
/-- {e for x in xs if ..} -/
theorem pe_set {elt tg iter : Expr} {ifs : List Expr} {scope : Scope} {own : List (PySem.Str × Nat)} {pos : Pos} {wi : TI} {g : TG} {tt : TT} {te : TE} (hc : X.calm = true) (hN : X.N.Nodup) (hi : PI X tg iter wi) (ok : BlkOk X.N X.env.scope scope own)
    (hg : ∀ (s : Shared) (H : Hp) (C : Addr) (cl : List (PySem.Str × Addr)) (fp : List Addr), PG (X.blk s H scope (compEnvC scope cl C X.env) fp) tg g) (ht : ∀ (s : Shared) (H : Hp) (C : Addr) (cl : List (PySem.Str × Addr)) (fp : List Addr), PTs (X.blk s H scope (compEnvC scope cl C X.env) fp) ifs tt)
    (he : ∀ (s : Shared) (H : Hp) (C : Addr) (cl : List (PySem.Str × Addr)) (fp : List Addr), PE (X.blk s H scope (compEnvC scope cl C X.env) fp) elt te) (hs : ∀ x, foldedSetIterable iter X.env x = pure x := by intro _; rfl) :
    PE X (.SetComp elt [⟨tg, iter, ifs, 0⟩] scope pos) (tSet X.prog X.w wi g tt te (own.map (·.2))) := by
  refine ⟨fun pins s σ H Q I h => ?_⟩
  have hfree : ∀ y ∈ scope.names, y.2 = .free → ∃ c, X.env.cells.lookup y.1 = some c := fun y hy e => (ok.free y hy e).elim (fun k => I.ok.has _ (.inl k)) fun k => I.ok.has _ (.inr k)
  rw [PpSet.eval_SetComp]
  refine wpAny_comprehension_free (use := none) rfl hs (closure_ok hfree) ok.kind (fun y hy e => by rw [ok.uniq y hy, e]) (thn (hi.run pins s σ H _ I h) fun xv s1 hx => thn hx fun itv s2 h2 => ?_)
  obtain ⟨it, fp, tn, J, H2, e, I2, T, st2, f2, q⟩ := h2
  subst e
  refine PpSet.newSet_ok (newEnv_comp ?_)
  obtain ⟨W, ⟨m0, w0⟩, hl⟩ := q _ (I2.hok.fresh (Nat.le_refl s2.heap.objs.size))
  have kp : ∀ b o, s2.heap.get? b = some o → (s2.heap.push { cls := .type "set", dict := none, data := .set #[] 0 (.fresh 0 0 (!X.w.params.followText "set-order")) }).get? b = some o := fun b o e => Heap.get?_push_of_some _ e
  refine start_run (s3 := { s2 with heap := s2.heap.push { cls := .type "set", dict := none, data := .set #[] 0 (.fresh 0 0 (!X.w.params.followText "set-order")) } }) hc hN ok
    (I2.laid (t' := s2.toks) kp (Nat.le_refl _) (setK_new (P := X.prog) (w := X.w) (H := upd H2 s2.heap.objs.size (zeroK X.prog X.w s2.heap.objs.size)) zero_new)) (fun b hb => ?_) T (T.keep _ _ _ st2 fun b _ o e => kp b o e) hg ht he w0 hl
  obtain ⟨o, e, _⟩ := T.obj _ _ st2 b hb
  have lt := Heap.lt_size e
  refine ⟨⟨?_, (f2 b hb).2⟩, by rw [Heap.size_push]; exact Nat.lt_succ_of_lt lt⟩
  rw [upd_ne (Nat.ne_of_lt lt)]
  exact (f2 b hb).1
/-- len of such a set -/
theorem call_len_setK : CallR X (.builtin "len") (fun xs H Q => ∃ p S n, xs = [.ref p] ∧ H p = some (SetK X.prog X.w p S n) ∧ Q (.int n) H) := by
  intro pins s σ H xs us Q I r h
  obtain ⟨p, S, n, rfl, hp, q⟩ := h
  obtain ⟨u, rfl, rx⟩ := vals1 r
  cases rx
  obtain ⟨o, es, ep, t, ho, hex, hd, _, _, hb, hf, hn⟩ := setK_get I hp
  exact call_len_set ho hex hd hf (Int.lt_trans (Int.ofNat_lt.mpr hb) (by decide)) ⟨.int n, H, I.tok _, ⟨_, by rw [hn]⟩, q⟩
end
/-- over a walk -/
theorem set_it {J : It} {n : Nat} {G : Hp → Prop} {Y : Nat → Hp → V → Hp → Prop} (wk : Walk J n G Y) {P : Program} {w : World} {g : TG} {tt : TT} {te : TE} {vs : List Nat} {σ : L2.St} {H1 : Hp} {D : Addr} {Qd : Hp → Prop} (Pv : Nat → Hp → Prop) (h0 : Pv 0 (upd H1 D (zeroK P w D))) (hG : ∀ i H, i ≤ n → Pv i H → G H)
    (hs : ∀ i x H H', i < n → Pv i H → Y i H x H' → turnT P w D g tt te vs σ (Pv (i + 1)) x H') (hd : ∀ H, Pv n H → Qd H) :
    ∃ W : Nat → Nat → Hp → Prop, (∃ m, W 0 m (upd H1 D (zeroK P w D))) ∧ loopT P w D J g tt te vs σ W Qd := by
  refine ⟨fun i m H => m + i = n ∧ Pv i H, ⟨n, rfl, h0⟩, fun i m H ⟨e, p⟩ => ?_⟩
  have q := hG i H (by omega) p
  match m, e with
  | 0, e =>
    obtain rfl : i = n := by omega
    exact .inl ⟨wk.stops H q, hd H p⟩
  | m + 1, e => exact .inr ⟨wk.goes i H (by omega) q, Pv (i + 1), fun H' p' => ⟨m, Nat.lt_succ_self m, by omega, p'⟩, fun x H' y => hs i x H H' (by omega) p (wk.yields i H x H' (by omega) q y)⟩
/-- {k: v for ..} over a walk -/
theorem dict_it {J : It} {n : Nat} {G : Hp → Prop} {Y : Nat → Hp → V → Hp → Prop} (wk : Walk J n G Y) {g : TG} {tt : TT} {tk tv : TE} {vs : List Nat} {σ : L2.St} {H1 : Hp} {D : Addr} {Qd : Hp → Prop} (Pv : Nat → Hp → Prop) (h0 : Pv 0 (upd H1 D (.dK []))) (hG : ∀ i H, i ≤ n → Pv i H → G H)
    (hs : ∀ i x H H', i < n → Pv i H → Y i H x H' → g x (wipe σ vs) H' fun σ2 H2 => wipe σ2 vs = wipe σ vs ∧ tt σ2 H2 fun b H3 =>
      if b = true then tk σ2 H3 fun y H4 => tv σ2 H4 fun z H5 => ∃ kvs k, y = kV k ∧ H5 D = some (.dK kvs) ∧ kvs.length < sizeLine ∧ Pv (i + 1) (upd H5 D (.dK (putK kvs k z))) else Pv (i + 1) H3) (hd : ∀ H, Pv n H → Qd H) :
    ∃ W : Nat → Nat → Hp → Prop, (∃ m, W 0 m (upd H1 D (.dK []))) ∧ ∀ i m H, W i m H →
      (J.stop i H ∧ Qd H) ∨ (J.go i H ∧ ∃ Nx : Hp → Prop, (∀ H', Nx H' → ∃ m', m' < m ∧ W (i + 1) m' H') ∧ ∀ x H', J.yld i H x H' → g x (wipe σ vs) H' fun σ2 H2 => wipe σ2 vs = wipe σ vs ∧ tt σ2 H2 fun b H3 =>
        if b = true then tk σ2 H3 fun y H4 => tv σ2 H4 fun z H5 => ∃ kvs k, y = kV k ∧ H5 D = some (.dK kvs) ∧ kvs.length < sizeLine ∧ Nx (upd H5 D (.dK (putK kvs k z))) else Nx H3) := by
  refine ⟨fun i m H => m + i = n ∧ Pv i H, ⟨n, rfl, h0⟩, fun i m H ⟨e, p⟩ => ?_⟩
  have q := hG i H (by omega) p
  match m, e with
  | 0, e =>
    obtain rfl : i = n := by omega
    exact .inl ⟨wk.stops H q, hd H p⟩
  | m + 1, e => exact .inr ⟨wk.goes i H (by omega) q, Pv (i + 1), fun H' p' => ⟨m, Nat.lt_succ_self m, by omega, p'⟩, fun x H' y => hs i x H H' (by omega) p (wk.yields i H x H' (by omega) q y)⟩
/-! ### how many unlike ones -/
def nd : List Str → Nat
  | [] => 0
  | x :: xs => if x ∈ xs then nd xs else nd xs + 1
theorem nd_le : ∀ xs : List Str, nd xs ≤ xs.length
  | [] => Nat.le_refl 0
  | x :: xs => by
    have := nd_le xs
    unfold nd
    rw [List.length_cons]
    split <;> omega
theorem nd_iff : ∀ xs : List Str, nd xs < xs.length ↔ ¬ xs.Nodup
  | [] => by simp [nd]
  | x :: xs => by
    have h1 := nd_le xs
    have h2 := nd_iff xs
    unfold nd
    rw [List.length_cons, List.nodup_cons]
    by_cases hx : x ∈ xs
    · rw [if_pos hx]
      exact ⟨fun _ z => z.1 hx, fun _ => by omega⟩
    · rw [if_neg hx]
      constructor
      · intro h z
        exact h2.mp (by omega) z.2
      · intro h
        have : nd xs < xs.length := h2.mpr fun z => h ⟨hx, z⟩
        omega
end SetT
/-! defs with *args and keyword-only parameters, called with keywords; C(*y, k = v), C.m(e, k = v) -/
namespace StK
open PySem PySem.Spec PyProof.Rows L2
open StX
/-- as KwChain, but r is what is left to be done -/
def KwEnd {α : Type} (D : Addr) : List (Str × Value) → Sem α → Sem α → Prop
  | [], t, r => t = r
  | q :: l, t, r => ∃ (β γ : Type) (k1 : Option Value → Sem β) (k2 : β → Sem γ) (k3 : γ → Sem α) (a : β), t = ((nsGet D q.1 >>= k1) >>= k2) >>= k3 ∧ k1 (some q.2) = pure a ∧ KwEnd D l (k2 a >>= k3) r
theorem KwEnd.run {α : Type} {K : PySem.W.Frag} {M : Model} {A : Around} {Ex : Value → Shared → Prop} {Q : α → Shared → Prop} {s : Shared} {D : Addr} (X : K.In s.heap) : ∀ {l : List (Str × Value)} {t r : Sem α}, (∀ q ∈ l, PySem.W.nsIn K D q.1 = some (some q.2)) → KwEnd D l t r → wpAny M A r Q Ex s → wpAny M A t Q Ex s
  | [], t, r, _, e, h => by
    obtain rfl : t = r := e
    exact h
  | q :: l, t, r, hl, e, h => by
    obtain ⟨β, γ, k1, k2, k3, a, e1, e2, e3⟩ := e
    have l1 : PySem.W.Looks M s.heap (nsGet D q.1 >>= k1) a := (PySem.W.looks_nsIn X (hl q (List.mem_cons_self ..))).andThen (PySem.W.Looks.of_pure e2)
    rw [e1, bind_assoc]
    exact wpAny_bind (l1.here (KwEnd.run X (fun p hp => hl p (List.mem_cons_of_mem _ hp)) e3 h))
/-- a promise by positional values and by the values of the keywords ks -/
def FnK (P : Program) (w : World) (K : PySem.W.Frag) (mg : Str → Option Value) (base : Heap) (CX : CXT) (k : Nat) (f : Addr) (ks : List Str) (sp : List V → List V → Hp → VK → XK → Prop) : Prop :=
  ∀ (A : Around) (outer : List Env) (s : Shared) (H : Hp) (us ws : List Value) (vs zs : List V) (Q : VK) (E : XK), Room k A → Env0 P w K mg base A outer s H → Vals vs us → Vals zs ws → zs.length = ks.length → sp vs zs H Q E →
    codeAny (model P w) A (.call (.ref f) ⟨us, ks.zip ws⟩) (CR CX outer P w H s Q E) s
section
variable {CX : CXT} {P : Program} {w : World} {K : PySem.W.Frag} {mg : Str → Option Value} {base : Heap} {k : Nat} {f : Addr} {x qual : Str} {params : Arguments} {body : List Stmt} {scope : Scope} {kws : List (Str × V)} {fd : FuncData} {N ps : List Str} {sp : Sp}
theorem FnK.mono {j : Nat} {ks : List Str} {sp : List V → List V → Hp → VK → XK → Prop} (F : FnK P w K mg base CX j f ks sp) (h : j ≤ k) : FnK P w K mg base CX k f ks sp := fun A outer s H us ws vs zs Q E hr => F A outer s H us ws vs zs Q E (hr.mono h)
theorem FnK.imp {ks : List Str} {sp sp' : List V → List V → Hp → VK → XK → Prop} (F : FnK P w K mg base CX k f ks sp) (h : ∀ vs zs H Q E, sp' vs zs H Q E → sp vs zs H Q E) : FnK P w K mg base CX k f ks sp' := fun A outer s H us ws vs zs Q E hr e0 r rz hl hs => F A outer s H us ws vs zs Q E hr e0 r rz hl (h _ _ _ _ _ hs)
/-- what a def with *v is promised of: the values ahead, a new tuple of the rest -/
def spStarK (n : Nat) (gV : List V → List V → List V) (sp : Sp) : List V → List V → Hp → VK → XK → Prop := fun vs zs H Q E => ∃ ws rest, vs = ws ++ rest ∧ ws.length = n ∧ rest.length ≤ sizeLine ∧ ∀ p, H p = Option.none → sp (gV ws zs ++ [V.ref p]) (upd H p (.tup rest)) Q E
/-- def f(a, .., *v, k = d, ..): n positional values ahead, keywords ks, ms: the keyword-only parameters that lack -/
theorem fn_starK {pv : Str} (F : FunD K x qual params body scope [] kws f fd) (S : FnScope N (ps ++ [pv]) scope) (hCX : CXUp CX) (n : Nat) (ks : List Str) (ms : List (Str × V)) (g : {α : Type} → List α → List α → List α → List α) (hk : kws ≠ []) (hms : ∀ q ∈ ms, q ∈ kws)
    (hrel : ∀ {vs mz zs : List V} {us mv ws : List Value}, Vals vs us → Vals mz mv → Vals zs ws → Vals (g vs mz zs) (g us mv ws))
    (hgl : ∀ (us mv ws : List Value), us.length = n → mv.length = ms.length → ws.length = ks.length → (g us mv ws).length = ps.length)
    (hb : ∀ (D : Addr) (doc pm : Value) (an : Option Addr) (cdv ct : Value) (us rest mv ws : List Value), us.length = n → mv.length = ms.length → ws.length = ks.length →
      KwEnd D ((ms.map (·.1)).zip mv) (bindArgs (PySem.W.fnOf x qual params body scope .none (.ref D) doc pm an cdv ct) ⟨us ++ rest, ks.zip ws⟩) (newTuple rest >>= fun t => pure (ps.zip (g us mv ws) ++ [(pv, t)])))
    (hbody : ∀ (cdv : Value) (A : Around) (outer : List Env) (s : Shared) (H : Hp) (vs : List V) (Q : VK) (E : XK), Room k (A.deeper (envOfC qual scope s.heap.objs.size f cdv)) → sp vs H Q E →
      ∃ t, PSs (cxOf CX P w K mg base N qual scope f cdv A outer s H E) body t ∧ t { nx := fun _ H' => Q .non H', rt := Q } (start N vs) H) :
    FnK P w K mg base CX (k + 1) f ks (spStarK n (fun vs zs => g vs (ms.map (·.2)) zs) sp) := by
  obtain ⟨oc, od, dV, kV, doc, pm, an, cdv, ct, osl, rfl, lk, hcd, hD, hK⟩ := F.ex
  rcases hD with ⟨_, rfl⟩ | ⟨e, _⟩
  case inr => exact absurd rfl e
  rcases hK with e | ⟨D, rfl, hq⟩
  · exact absurd e hk
  obtain ⟨mv, hl, rk, hks⟩ := kwd_vals (ms := ms) fun q hm => hq q (hms q hm)
  intro A outer s H us ws vs zs Q E hr e0 r rz hzl hsp
  obtain ⟨v1, rest, ev, hl1, hz, hsp⟩ := hsp
  subst ev
  obtain ⟨u1, u2, eu, r1, r2⟩ := vals_split r
  subst eu
  have hn : H s.heap.objs.size = Option.none := e0.hok.fresh (Nat.le_refl _)
  have l1 : u1.length = n := by rw [← r1.length]; exact hl1
  have l2 : u2.length ≤ sizeLine := by rw [← r2.length]; exact hz
  have l3 : ws.length = ks.length := by rw [← rz.length]; exact hzl
  have gl := hgl u1 mv ws l1 hl l3
  have gr := hrel r1 rk rz
  refine run_bnd lk hcd S hr e0 (G := fun xs H2 => ∃ p, H p = Option.none ∧ xs = g v1 (ms.map (·.2)) zs ++ [V.ref p] ∧ H2 = upd H p (.tup rest)) (fun A' Ex Q' h => ?_) fun s2 H2 xs ⟨p, hp, ex, eH⟩ hr' => ?_
  · refine KwEnd.run (e0.mod.kin.keeps fun b o e => (e0.bs b o e).1) hks (hb D doc pm an cdv ct u1 u2 mv ws l1 hl l3) ?_
    refine wpAny_bind (wpAny_newTuple (wpAny_pure ?_) l2)
    have new : ObjOk P w (upd H s.heap.objs.size (.tup rest)) (s.heap.push ({ cls := .type "tuple", data := .seq u2.toArray } : Obj)) s.heap.objs.size (.tup rest) := ⟨hz, u2, r2, ⟨_, Heap.get?_push_size _ rfl, rfl, _, rfl⟩⟩
    have un := un_laid (fs := frs outer) (s := s) (o := ({ cls := .type "tuple", data := .seq u2.toArray } : Obj)) (u := .tup rest) hn
    have z := h _ _ (g v1 (ms.map (·.2)) zs ++ [V.ref s.heap.objs.size]) (g u1 mv ws ++ [Value.ref s.heap.objs.size]) (env0_laid e0 new) un rfl (fun e s' => hCX outer s H _ _ E e s' un (fun b o q => Heap.get?_push_of_some _ q) rfl) (gr.append (.cons rfl .nil))
      (by rw [List.length_append, List.length_append, gr.length, gl] <;> rfl) ⟨_, hn, rfl, rfl⟩
    rw [List.zip_append gl.symm] at z
    exact z
  · subst ex eH
    exact hbody cdv A outer s2 _ _ Q E hr' (hsp p hp)
end
section
variable {CX : CXT} {P : Program} {w : World} {K : PySem.W.Frag} {mg : Str → Option Value} {base : Heap} {k n : Nat} {f : Addr} {fd : FuncData} {ps ks : List Str} {sp : Sp} {g : List Value → List Value → List Value} {gV : List V → List V → List V}
/-- a promise with its binding, as a promise by keywords -/
theorem fnK_of (F : FnOk P w K mg base CX k f fd ps sp) (hb : KBn K fd ps n ks g gV) : FnK P w K mg base CX k f ks (fun vs zs H Q E => vs.length = n ∧ sp (gV vs zs) H Q E) := fun A outer s H us ws vs zs Q E hr e0 r rz hl hs =>
  F.run A outer s H ⟨us, ks.zip ws⟩ (g us ws) (gV vs zs) Q E hr e0 (hb.to s us ws (e0.mod.kin.keeps fun b o e => (e0.bs b o e).1) (r.length.symm.trans hs.1) (rz.length.symm.trans hl)) (hb.rel r rz) hs.2
end
/-! ### the call's node -/
section
variable {M : Model} {A : Around} {E : Value → Shared → Prop} {s : Shared}
theorem sk_lone {f : Value} {x : Sem Value} {pos : Pos} {keywords : List (Option Str × Sem Value)} {Q : Args → Shared → Prop} (hall : keywords.all (·.1.isSome) = true)
    (h : wpAny M A x (fun v s₁ => wpAny M A (evalAll (keywords.map (·.2))) (fun ks s₂ => PySem.W.StarOf M A E v (fun vs s₃ => Q ⟨vs, (keywords.filterMap (·.1)).zip ks⟩ s₃) s₂) E s₁) E s) :
    wpAny M A (evalArgs f true [(true, (do let v ← x; standAt pos; pure v))] keywords) Q E s := by
  unfold evalArgs
  first
    | refine wpAny_bind (wpAny_bind (wpAny_mono h (fun v s₁ h₁ => wpAny_bind (wpAny_standAt (wpAny_pure ?_))) fun _ _ x => x))
    | refine wpAny_bind (wpAny_bind (wpAny_bind (wpAny_mono h (fun v s₁ h₁ => wpAny_bind (wpAny_standAt (wpAny_pure (wpAny_pure ?_)))) fun _ _ x => x)))
  refine wpAny_holding ?_
  simp only [hall, if_true]
  refine wpAny_bind (wpAny_mono h₁ (fun ks s₂ h₂ => ?_) fun _ _ x => x)
  unfold PySem.W.StarOf at h₂
  refine wpAny_bind ?_
  refine wpAny_bind (wpAny_mono h₂ (fun b s₃ h₃ => ?_) fun _ _ x => x)
  obtain ⟨rfl, h₃⟩ := h₃
  have z := wpAny_holding (vs := (((keywords.filterMap (·.1)).zip ks).map (·.2))) (wpAny_mono h₃ (fun vs s₄ h₄ => h₄) fun _ _ x => x)
  try simp only [Bool.false_eq_true, if_false]
  first
    | exact wpAny_mono z (fun vs s₄ h₄ => wpAny_pure h₄) fun _ _ x => x
    | exact wpAny_bind (wpAny_pure (wpAny_mono z (fun vs s₄ h₄ => wpAny_pure h₄) fun _ _ x => x))
theorem sk_call {f : Value} {first : List Value} {pos : Pos} {Q : Value → Shared → Prop} {P : Heap → Prop} {args : List (Bool × Sem Value)} {kws : List (Option Str × Sem Value)} (hst : args.any (·.1) = true)
    (hk : ∀ h, P h → ∃ k, (k = Keeper.frame ∨ k = Keeper.machine ∨ k = Keeper.boundFrame) ∧ PySem.W.Looks M h (keeperOf f) k)
    (h : wpAny M A (evalArgs f true args kws) (fun a s₁ => P s₁.heap ∧ wpAny M A (call f (first ++ a.pos) a.kw) Q E s₁) E s) : wpAny M A (callWith pos f first args kws) Q E s := by
  unfold callWith
  refine wpAny_bind (wpAny_holding (wpAny_mono h (fun a s₁ h₁ => wpAny_bind (wpAny_standAt ?_)) fun _ _ x => x))
  obtain ⟨k, hk', L⟩ := hk _ h₁.1
  simp only [hst, Bool.true_or]
  refine wpAny_bind (L.here ?_)
  have tail : ∀ {t : Sem Value}, wpAny M A t Q E s₁ → wpAny M A (t >>= fun r => holding [r] point >>= fun _ => pure r) Q E s₁ :=
    fun ht => wpAny_bind (wpAny_mono ht (fun r s₂ hr => wpAny_bind (wpAny_holding (wpAny_point (wpAny_pure hr)))) fun _ _ x => x)
  have marked (mk : Value) : wpAny M A (callMarked mk f (first ++ a.pos) a.kw) Q E s₁ := by unfold callMarked; exact Calls.wpAny_keep h₁.2
  rcases hk' with rfl | rfl | rfl <;> dsimp only <;> first | exact tail (marked _) | exact tail (wpAny_operating h₁.2)
end
/-! ### making -/
/-- what the making of a C asks: behind the values t gives and the keywords' values, a new instance and its dict -/
def spMk (C : Addr) (sp : List V → List V → Hp → VK → XK → Prop) (E : XK) (vs zs : List V) (H : Hp) (Q : VK) : Prop := ∀ x dx, H x = Option.none → H dx = Option.none → dx ≠ x →
  sp (V.ref x :: vs) zs (upd (upd H dx (.own x)) x (.ins C dx [])) (fun v H2 => v = .non ∧ Q (.ref x) H2) E
section
variable {X : Cx} {CX : CXT} {k n i : Nat} {f C : Addr} {ks : List Str} {sp : List V → List V → Hp → VK → XK → Prop} {E : XK} {x m : Str} {p pos sp_ apos : Pos} {e o : Expr} {es : List Expr} {kws : List Keyword} {te ta : TE} {t tk : TA} {mc : Value} {q g : Addr}
theorem run_makeK {pins : List (Addr × Obj)} {σ : L2.St} {H : Hp} {s : Shared} {Q : VK} {us ws : List Value} {vs zs : List V} (M : Mk X.K C f) (F : FnK X.prog X.w X.K X.mg X.base CX k f ks sp) (hr : Room (k + 1) X.A) (hx : Passes CX X E) (I : Inv X pins σ H s) (r : Vals vs us) (rz : Vals zs ws) (hl : zs.length = ks.length)
    (h : spMk C sp E vs zs H Q) : wpAny (model X.prog X.w) X.A (call (.ref C) us (ks.zip ws)) (EP X pins σ Q) X.xe s := by
  have hq := h (s.heap.objs.size + 1) s.heap.objs.size (I.hok.fresh (Nat.le_succ _)) (I.hok.fresh (Nat.le_refl _)) (Nat.ne_of_lt (Nat.lt_succ_self _))
  have I2 := Inv.made (C := C) I
  have r2 : Vals (V.ref (s.heap.objs.size + 1) :: vs) (Value.ref (s.heap.objs.size + 1) :: us) := .cons rfl r
  refine wpAny_call (make_map (f := f) I.kIn M.makes M.init (beq_iff_eq.mp M.fn) (codeAny_mono (F _ X.stack _ _ (Value.ref (s.heap.objs.size + 1) :: us) ws _ zs _ E (hr.make C us (ks.zip ws)) (I2.env0.make C us (ks.zip ws)) r2 rz hl hq) fun r s' hq' => ?_))
  cases r with
  | error e => exact hx pins σ _ _ e s' I2 hq'
  | ok fl =>
    cases fl with
    | ret u =>
      obtain ⟨v, H', I3, rv, ev, q3⟩ := I2.after hq'
      subst ev
      exact ⟨rv, ⟨V.ref (s.heap.objs.size + 1), H', I3, rfl, q3⟩⟩
    | next => exact False.elim hq'
    | brk => exact False.elim hq'
    | cont => exact False.elim hq'
/-- C(e, .., k = v, ..), C a name of the module -/
def tMakeS (C : Addr) (m : Nat) (sp : List V → List V → Hp → VK → XK → Prop) (E : XK) (t tk : TA) : TE := fun σ H Q => t σ H fun vs H1 => tk σ H1 fun zs H2 => zs.length = m ∧ spMk C sp E vs zs H2 Q
/-- c(*e, k = v, ..), c a name whose value is the class at C -/
def tMakeT (K : PySem.W.Frag) (C : Addr) (m : Nat) (sp : List V → List V → Hp → VK → XK → Prop) (E : XK) (tf te : TE) (tk : TA) : TE := fun σ H Q => tf σ H fun c H0 => c = .ref C ∧ te σ H0 fun y H1 => tk σ H1 fun zs H2 => zs.length = m ∧ ∃ a xs, y = V.ref a ∧ (SqT K H2 a xs ∨ SqL K H2 a xs) ∧ spMk C sp E xs zs H2 Q
theorem pe_makeT {tf : TE} (M : Mk X.K C f) (F : FnK X.prog X.w X.K X.mg X.base CX k f ks sp) (hr : Room (k + 1) X.A) (hx : Passes CX X E) (hf : PE X (.Name x p) tf) (he : PE X e te) (hkw : PK X kws tk)
    (hall : (backToKw pos (keywordEach kws X.env)).all (·.1.isSome) = true := by rfl) (hks : (backToKw pos (keywordEach kws X.env)).filterMap (·.1) = ks := by rfl)
    (hst : starEach [.Starred e sp_] X.env = [(true, eval e X.env)] := by rfl) :
    PE X (.Call (.Name x p) [.Starred e sp_] kws pos) (tMakeT X.K C ks.length sp E tf te tk) := by
  refine ⟨fun pins s σ H Q I h => ?_⟩
  refine wpAny_Call_Name_kw (thn (hf.run pins s σ H _ I h) fun u s1 ⟨c, H1, I1, rc, ec, q1⟩ => ?_)
  subst ec
  obtain rfl : u = Value.ref C := rc
  rw [hst]
  refine sk_call (P := X.K.In) rfl (PySem.W.keeps_K M.kp) (sk_lone hall (thn (he.run pins s1 σ H1 _ I1 q1) fun v s2 ⟨y, H2, I2, ry, q2⟩ => ?_))
  refine thn (hkw.run pos pins s2 σ H2 _ I2 q2) fun ws s3 ⟨zs, H3, I3, rz, l2, a, xs, ey, hxs, q3⟩ => ?_
  subst ey
  obtain rfl : v = Value.ref a := ry
  refine star_any I3 hxs fun us s4 I4 rv => ⟨I4.kIn, ?_⟩
  rw [hks]
  exact run_makeK M F hr hx I4 rv rz l2 q3
/-! ### classmethods -/
theorem run_cmK {Q : VK} {pins : List (Addr × Obj)} {σ : L2.St} {H : Hp} {s : Shared} {us ws : List Value} {vs zs : List V} (F : FnK X.prog X.w X.K X.mg X.base CX k g ks sp) (hr : Room k X.A) (hx : Passes CX X E) (I : Inv X ((q, PySem.W.methodObj (.ref g) (.ref C)) :: pins) σ H s)
    (r : Vals vs us) (rz : Vals zs ws) (hl : zs.length = ks.length) (h : sp (.ref C :: vs) zs H Q E) : wpAny (model X.prog X.w) X.A (call (.ref q) us (ks.zip ws)) (EP X pins σ Q) X.xe s := by
  have z : wpAny (model X.prog X.w) X.A (call (.ref q) us (ks.zip ws)) (EP X ((q, PySem.W.methodObj (.ref g) (.ref C)) :: pins) σ Q) X.xe s := by
    refine wpAny_call (PySem.W.method_call (ClX.pin_at I) (codeAny_mono (F X.A X.stack s H (.ref C :: us) ws (.ref C :: vs) zs Q E hr I.env0 (.cons rfl r) rz hl h) fun r s' hq => ?_))
    cases r with
    | error e => exact hx _ σ H s e s' I hq
    | ok fl =>
      cases fl with
      | ret u => exact I.after hq
      | next => exact False.elim hq
      | brk => exact False.elim hq
      | cont => exact False.elim hq
  exact thn z fun _ _ y => ClX.unpinE y
/-- C.m(e, .., k = v, ..), m a classmethod of C -/
def tCMethK (C : Addr) (m : Nat) (sp : List V → List V → Hp → VK → XK → Prop) (E : XK) (ta : TE) (t tk : TA) : TE := fun σ H Q => ta σ H fun x H1 => x = .ref C ∧ t σ H1 fun vs H2 => tk σ H2 fun zs H3 => zs.length = m ∧ sp (.ref C :: vs) zs H3 Q E
theorem pe_cmethK {pl : Sem Bool} (he : PE X o ta) (r : ClX.CRead X.K C mc) (c : ClX.CMet X.K C mc m q g) (F : FnK X.prog X.w X.K X.mg X.base CX k g ks sp) (hr : Room k X.A) (hx : Passes CX X E) (ha : PA X (e :: es) t) (hkw : PK X kws tk)
    (hall : (backToKw pos (keywordEach kws X.env)).all (·.1.isSome) = true := by rfl) (hks : (backToKw pos (keywordEach kws X.env)).filterMap (·.1) = ks := by rfl)
    (hst : starEach (e :: es) X.env = (false, eval e X.env) :: starEach es X.env := by rfl) (hpl : ((backTo pos (starEach (e :: es) X.env)).any (·.1) || (backToKw pos (keywordEach kws X.env)).any (·.1.isNone)) = false := by rfl)
    (ht : eval (.Call (.Attribute o m apos) (e :: es) kws pos) X.env = (do
      let ov ← eval o X.env
      standAt apos.atName
      let (f, first) ← holding [ov] (getMethod ov m pl)
      callWith pos f first (backTo pos (starEach (e :: es) X.env)) (backToKw pos (keywordEach kws X.env))) := by rfl) :
    PE X (.Call (.Attribute o m apos) (e :: es) kws pos) (tCMethK C ks.length sp E ta t tk) := by
  refine ⟨fun pins s σ H Q I h => ?_⟩
  refine PySem.W.methodCall_KW (pl := pl) (thn (he.run pins s σ H _ I h) fun u s1 ⟨x, H1, I1, rx, ex, q1⟩ => ?_) ht
  subst ex
  obtain rfl : u = Value.ref C := rx
  refine ClX.getmethcm_ok I1 r c fun s2 I2 => ?_
  refine PySem.W.callWith_of (P := PySem.W.MethP X.K _ g (.ref C)) hpl (PySem.W.keeps_M c.fi) ?_
  have z := ha.run pos _ s2 σ H1 _ I2 q1
  rw [hst] at z ⊢
  refine evalArgs_kw hall ?_
  refine thn z fun us s3 ⟨vs, H2, I3, rv, q2⟩ => ?_
  refine thn (hkw.run pos _ s3 σ H2 _ I3 q2) fun ws s4 ⟨zs, H3, I4, rz, l2, q3⟩ => ⟨⟨ClX.pin_at I4, I4.kIn⟩, ?_⟩
  rw [hks]
  exact run_cmK F hr hx I4 rv rz l2 q3
end
end StK
namespace Sj
open PySem L2 Sup
open NdefX (NF NScope ncx envF startF nscope_by)
open C8 (pss_cut tCut)
abbrev sIsInt : Stmt := top 14
abbrev sBetw : Stmt := top 15
abbrev sWrong : Stmt := top 23
theorem tyx_same {K : PySem.W.Frag} {H H' : Hp} {x : V} {t : Value} (h : TyX K H x t) (s : Same H H') : TyX K H' x t := by
  cases h with
  | base b =>
    refine .base ?_
    cases b with
    | non => exact .non
    | bl x => exact .bl x
    | int i => exact .int i
    | str x => exact .str x
    | flt x => exact .flt x
    | lst e => exact .lst (s _ _ e)
    | frz e => exact .frz (s _ _ e)
    | tup e => exact .tup (s _ _ e)
    | dK e => exact .dK (s _ _ e)
    | dT e => exact .dT (s _ _ e)
    | ins e c h1 h2 h3 h4 => exact .ins (s _ _ e) c h1 h2 h3 h4
  | byt b => exact .byt b
  | set e => exact .set (s _ _ e)
  | kList e c => exact .kList e c
  | kTuple e c => exact .kTuple e c
  | kDict e c => exact .kDict e c
  | fTuple e => exact .fTuple (s _ _ e)
  | fDict e => exact .fDict (s _ _ e)
/-- the three classes of legs -/
structure Kinds where
  drv : Addr
  lis : Addr
  leg : Addr
/-- isinstance(x, (Driver, Listener)) -/
def IsL (K : PySem.W.Frag) (ks : Kinds) (H : Hp) (x : V) (b : Bool) : Prop := ∃ t, TyX K H x t ∧ PySem.W.kitAny K t [.ref ks.drv, .ref ks.lis] = some b
theorem IsL.same {K : PySem.W.Frag} {ks : Kinds} {H H' : Hp} {x : V} {b : Bool} (h : IsL K ks H x b) (s : Same H H') : IsL K ks H' x b := h.imp fun _ ⟨a, e⟩ => ⟨tyx_same a s, e⟩
/-- a driver or a listener -/
structure LegR where
  a : Addr
  C : Addr
  z : Str
def LegR.ok (ks : Kinds) (H : Hp) (r : LegR) : Prop := (r.C = ks.drv ∨ r.C = ks.lis) ∧ LegAt H r.a r.C r.z
theorem LegR.ok.same {ks : Kinds} {H H' : Hp} {r : LegR} (h : r.ok ks H) (s : Same H H') : r.ok ks H' := ⟨h.1, h.2.same s⟩
def refs (rs : List LegR) : List V := rs.map fun r => .ref r.a
def names (rs : List LegR) : List Str := rs.map (·.z)
/-- an integer from 1 to 3 -/
def TopIs (K : PySem.W.Frag) (H : Hp) (T : V) (b : Bool) : Prop := (∃ i : Int, T = .int i ∧ b = (decide (1 ≤ i) && decide (i ≤ 3))) ∨ ∃ (t : String) (m c : Bool), TyX K H T (.type t) ∧ kitB t "int" = some m ∧ kitB t "bool" = some c ∧ (m && !c) = false ∧ b = false
def RailIs (K : PySem.W.Frag) (H : Hp) (G : V) (b : Bool) : Prop := ∃ t : String, TyX K H G (.type t) ∧ kitB t "bool" = some b
theorem TopIs.same {K : PySem.W.Frag} {H H' : Hp} {T : V} {b : Bool} (h : TopIs K H T b) (s : Same H H') : TopIs K H' T b := h.imp id fun ⟨t, m, c, a, r⟩ => ⟨t, m, c, tyx_same a s, r⟩
theorem RailIs.same {K : PySem.W.Frag} {H H' : Hp} {T : V} {b : Bool} (h : RailIs K H T b) (s : Same H H') : RailIs K H' T b := h.imp fun _ ⟨a, r⟩ => ⟨tyx_same a s, r⟩
def spIsInt (K : PySem.W.Frag) : Sp := fun vs H Q _ => ∃ (x : V) (t : String) (b c : Bool), vs = [x] ∧ TyX K H x (.type t) ∧ kitB t "int" = some b ∧ kitB t "bool" = some c ∧ Q (.bl (b && !c)) H
def spBetw (K : PySem.W.Frag) : Sp := fun vs H Q _ => ∃ (T : V) (b : Bool), vs = [T, .int 1, .int 3] ∧ TopIs K H T b ∧ Q (.bl b) H
section
variable {P : Program} {w : World} {K : PySem.W.Frag} {mg : Str → Option Value} {base : Heap}
theorem scIsInt : FnScope ["value"] ["value"] (defScope sIsInt) := ⟨rfl, rfl, rfl, by decide +kernel, rfl, by decide +kernel, by decide +kernel⟩
theorem scBetw : FnScope ["value", "least", "most"] ["value", "least", "most"] (defScope sBetw) := ⟨rfl, rfl, rfl, by decide +kernel, rfl, by decide +kernel, by decide +kernel⟩
theorem ok_isint {f : Addr} {fd : FuncData} (F : Fun K "is_integer" "is_integer" sIsInt f fd) (mi : mg "isinstance" = none) (mn : mg "int" = none) (mb : mg "bool" = none) : FnOk P w K mg base CX0 1 f fd ["value"] (spIsInt K) := by
  refine F.ok scIsInt (fun vs H Q E h => ?_) (fun cdv A outer s H vs Q E hr h => ?_)
  · obtain ⟨x, t, b, c, rfl, _⟩ := h
    rfl
  · obtain ⟨x, t, b, c, rfl, ht, hb, hc, k⟩ := h
    refine ⟨_, pss_one (ps_ret (pe_and (pe_callB call_isi (by rfl) mi (by decide +kernel) (pa_cons (pv 0) (pa_cons (pe_bltn (by rfl) mn (by decide +kernel) (v := .ty "int") rfl) pa_nil)))
      (pe_one (pe_not (pe_callB call_isi (by rfl) mi (by decide +kernel) (pa_cons (pv 0) (pa_cons (pe_bltn (by rfl) mb (by decide +kernel) (v := .ty "bool") rfl) pa_nil))))))), ?_⟩
    refine ⟨_, rfl, _, _, _, _, b, rfl, .ty _, ht, kit_ty hb, _, rfl, ?_⟩
    cases b with
    | false => exact iteF k
    | true => exact iteT ⟨_, rfl, _, _, _, _, c, rfl, .ty _, ht, kit_ty hc, _, rfl, k⟩
theorem ok_betw {f fI : Addr} {fd fdI : FuncData} (F : Fun K "is_between" "is_between" sBetw f fd) (FI : FnOk P w K mg base CX0 1 fI fdI ["value"] (spIsInt K)) (mI : mg "is_integer" = some (.ref fI)) (kI : PySem.W.keepIn K (.ref fI) = true) (bI : Binds K fdI ["value"] []) :
    FnOk P w K mg base CX0 2 f fd ["value", "least", "most"] (spBetw K) := by
  refine F.ok scBetw (fun vs H Q E h => ?_) (fun cdv A outer s H vs Q E hr h => ?_)
  · obtain ⟨T, b, rfl, _⟩ := h
    rfl
  · obtain ⟨T, b, rfl, ht, k⟩ := h
    refine ⟨_, pss_one (ps_ret (pe_and (pe_call FI hr rfl mI kI bI .nil pass0 (pa_cons (pv 0) pa_nil)) (pe_one (pe_chain op_le op_le (pv 1) (pv 0) (pv 2))))), ?_⟩
    rcases ht with ⟨i, rfl, rfl⟩ | ⟨t, m, c, ht, hm, hc, e, rfl⟩
    · refine ⟨_, rfl, _, _, _, _, rfl, .base (.int i), (by decide +kernel : kitB "int" "int" = some true), (by decide +kernel : kitB "int" "bool" = some false), _, rfl, ?_⟩
      refine iteT ⟨_, rfl, _, rfl, _, _, rfl, rfl, _, rfl, ?_⟩
      by_cases h1 : (1 : Int) ≤ i
      · rw [decide_eq_true h1] at k ⊢
        exact iteT ⟨_, rfl, _, _, rfl, rfl, k⟩
      · rw [decide_eq_false h1] at k ⊢
        exact iteF k
    · refine ⟨_, rfl, _, _, _, _, rfl, ht, hm, hc, _, rfl, ?_⟩
      rw [e]
      exact iteF k
end
end Sj
namespace Sj
open PySem L2 Sup
open NdefX (NF NScope ncx envF startF nscope_by)
open C8 (pss_cut tCut)
/-- the first reason, the legs being right -/
def due (zs : List Str) (tb rb : Bool) : V := if 40 < zs.length then .str "many" else if zs.Nodup then (if tb = false then .str "top" else if rb = false then .str "rails" else .non) else .str "name"
/-- wrong_frame(legs, top, ground, power) -/
def spWrong (K : PySem.W.Frag) (ks : Kinds) : Sp := fun vs H Q _ => ∃ (t : Addr) (xs : List V) (T G R : V) (tb gb pb : Bool), vs = [.ref t, T, G, R] ∧ H t = some (.tup xs) ∧ xs.length ≤ 1000 ∧ TopIs K H T tb ∧ RailIs K H G gb ∧ RailIs K H R pb ∧
  ((∃ bs : List Bool, bs.length = xs.length ∧ bs.all id = false ∧ (∀ (i : Nat) (x : V) (b : Bool), xs[i]? = some x → bs[i]? = some b → IsL K ks H x b) ∧ ∀ H', Same H H' → Q (.str "legs") H') ∨
   ∃ rs : List LegR, xs = refs rs ∧ (∀ r ∈ rs, r.ok ks H) ∧ ∀ H', Same H H' → Q (due (names rs) tb (gb && pb)) H')
/-- what the text gives -/
structure WrT (P : Program) (w : World) (K : PySem.W.Frag) (mg : Str → Option Value) (base : Heap) (ks : Kinds) (CF : Addr) : Prop where
  isi : mg "isinstance" = none
  all : mg "all" = none
  len : mg "len" = none
  bool : mg "bool" = none
  mD : mg "Driver" = some (.ref ks.drv)
  mI : mg "Listener" = some (.ref ks.lis)
  mF : mg "Frame" = some (.ref CF)
  most : ∃ mc u, ClX.CRead K CF mc ∧ ClX.CVal K CF mc "MOST" (.int 40) u
  icD : IsiC K ks.drv
  icI : IsiC K ks.lis
  nD : NoAttr K ks.drv "name"
  nI : NoAttr K ks.lis "name"
  dd : PySem.W.kitAny K (.ref ks.drv) [.ref ks.drv, .ref ks.lis] = some true
  ii : PySem.W.kitAny K (.ref ks.lis) [.ref ks.drv, .ref ks.lis] = some true
  betw : ∃ fB fdB, mg "is_between" = some (.ref fB) ∧ PySem.W.keepIn K (.ref fB) = true ∧ Binds K fdB ["value", "least", "most"] [] ∧ FnOk P w K mg base CX0 2 fB fdB ["value", "least", "most"] (spBetw K)
theorem LegR.ok.isl {P : Program} {w : World} {K : PySem.W.Frag} {mg : Str → Option Value} {base : Heap} {ks : Kinds} {CF : Addr} {H : Hp} {r : LegR} (h : r.ok ks H) (T : WrT P w K mg base ks CF) : IsL K ks H (.ref r.a) true := by
  obtain ⟨hc, hl⟩ := h
  rcases hc with e | e
  · rw [e] at hl
    exact ⟨_, hl.ty T.icD, T.dd⟩
  · rw [e] at hl
    exact ⟨_, hl.ty T.icI, T.ii⟩
/-- the reading of isinstance(leg, (Driver, Listener)) -/
def teIsL (K : PySem.W.Frag) (ks : Kinds) : TE := tCB (rIsiT K) (tCons (tVar 4) (tCons (tTup (tCons (tC (.ref ks.drv)) (tCons (tC (.ref ks.lis)) tNil))) tNil))
def teNm (K : PySem.W.Frag) : TE := tFld K (tVar 4) "name"
theorem isl_rd {K : PySem.W.Frag} {ks : Kinds} {σ : L2.St} {H : Hp} {x : V} {b : Bool} {Q : VK} (hx : σ[4]? = some (some x)) (h : IsL K ks H x b) (k : ∀ H', Same H H' → Q (.bl b) H') : teIsL K ks σ H Q := by
  obtain ⟨t, ty, e⟩ := h
  refine ⟨x, hx, by show 2 ≤ sizeLine; decide, fun p hp => ?_⟩
  have s1 : Same H (upd H p (.tup [.ref ks.drv, .ref ks.lis])) := fun b o e => by rw [upd_ne (ne_of_none e hp)]; exact e
  refine ⟨x, p, [.ref ks.drv, .ref ks.lis], t, [.ref ks.drv, .ref ks.lis], b, rfl, upd_same, .cons (.own _) (.cons (.own _) .nil), tyx_same ty s1, e, k _ s1⟩
abbrev stW (t : Addr) (T G R : V) : L2.St := L2.start ["legs", "top", "ground", "power", "leg"] [.ref t, T, G, R]
theorem isl_walk {K : PySem.W.Frag} {ks : Kinds} {t D : Addr} {T G R : V} {xs : List V} {bs : List Bool} {H : Hp} {Qd : Hp → Prop} (ht : H t = some (.tup xs)) (hD : H D = none) (hl : bs.length = xs.length) (hx : xs.length ≤ 1000)
    (hb : ∀ (i : Nat) (x : V) (b : Bool), xs[i]? = some x → bs[i]? = some b → IsL K ks H x b) (hd : ∀ H', Same H H' → H' D = some (.lst (bs.map V.bl)) → Qd H') :
    ∃ W : Nat → Nat → Hp → Prop, (∃ m, W 0 m (upd H D (.lst []))) ∧ ∀ i m H, W i m H →
      ((Itt K t).stop i H ∧ Qd H) ∨ ((Itt K t).go i H ∧ ∃ Nx : Hp → Prop, (∀ H', Nx H' → ∃ m', m' < m ∧ W (i + 1) m' H') ∧ ∀ x H', (Itt K t).yld i H x H' → gName 4 x (wipe (stW t T G R) [4]) H' fun σ2 H2 => wipe σ2 [4] = wipe (stW t T G R) [4] ∧ tYes σ2 H2 fun b H3 =>
        if b = true then teIsL K ks σ2 H3 fun y H4 => ∃ acc, H4 D = some (.lst acc) ∧ acc.length < sizeLine ∧ Nx (upd H4 D (.lst (acc ++ [y]))) else Nx H3) := by
  have sD : ∀ (o : HO), Same H (upd H D o) := fun o b u e => by rw [upd_ne (ne_of_none e hD)]; exact e
  refine lc_it (walk_tup (K := K) (a := t) (xs := xs)) (fun i H' => Same H H' ∧ H' D = some (.lst ((bs.take i).map V.bl))) ⟨sD _, by rw [upd_same]; rfl⟩ (fun i H' _ p => .inl (.inl (p.1 _ _ ht))) ?_ ?_
  · rintro i x H1 H2 hi ⟨s1, d1⟩ ⟨rfl, hx1⟩
    refine ⟨rfl, ?_⟩
    have hi' : i < bs.length := by omega
    have hb1 : bs[i]? = some bs[i] := List.getElem?_eq_getElem hi'
    unfold tYes
    dsimp only
    rw [if_pos rfl]
    refine isl_rd rfl ((hb i x _ hx1 hb1).same s1) fun H3 s3 => ⟨_, s3 _ _ d1, ?_, ?_, ?_⟩
    · rw [List.length_map, List.length_take]
      exact Nat.lt_of_le_of_lt (Nat.min_le_right _ _) (Nat.lt_of_le_of_lt (show bs.length ≤ 1000 by omega) (by decide))
    · exact fun b o e => by
        rw [upd_ne (ne_of_none e hD)]
        exact s3 _ _ (s1 _ _ e)
    · rw [upd_same, List.take_add_one, hb1, List.map_append]
      rfl
  · rintro H1 ⟨s1, d1⟩
    rw [← hl, List.take_length] at d1
    exact hd H1 s1 d1
/-- the set of the names -/
theorem names_walk {P : Program} {w : World} {K : PySem.W.Frag} {ks : Kinds} {t D : Addr} {T G R : V} {rs : List LegR} {H : Hp} {Qd : Hp → Prop} (ht : H t = some (.tup (refs rs))) (hD : H D = none) (hx : rs.length ≤ 1000) (hr : ∀ r ∈ rs, r.ok ks H)
    (cD : Cls K ks.drv) (cI : Cls K ks.lis) (nD : NoAttr K ks.drv "name") (nI : NoAttr K ks.lis "name") (hd : ∀ H' S, Same H H' → H' D = some (SetK P w D S (SetT.nd (names rs).reverse)) → Qd H') :
    ∃ W : Nat → Nat → Hp → Prop, (∃ m, W 0 m (upd H D (SetT.zeroK P w D))) ∧ SetT.loopT P w D (Itt K t) (gName 4) tYes (teNm K) [4] (stW t T G R) W Qd := by
  have sD : ∀ (o : HO), Same H (upd H D o) := fun o b u e => by rw [upd_ne (ne_of_none e hD)]; exact e
  have hlen : (refs rs).length = rs.length := by unfold refs; rw [List.length_map]
  refine SetT.set_it (walk_tup (K := K) (a := t) (xs := refs rs)) (fun i H' => Same H H' ∧ H' D = some (SetK P w D (fun j : Key => (names (rs.take i)).any fun z => decide (j = Sum.inr z)) (SetT.nd (names (rs.take i)).reverse))) ⟨sD _, ?_⟩ (fun i H' _ p => .inl (.inl (p.1 _ _ ht))) ?_ ?_
  · rw [upd_same]
    rfl
  · rintro i x H1 H2 hi ⟨s1, d1⟩ ⟨rfl, hx1⟩
    rw [hlen] at hi
    have e1 : (refs rs)[i]? = some (.ref rs[i].a) := by unfold refs; rw [List.getElem?_map, List.getElem?_eq_getElem hi]; rfl
    rw [e1] at hx1
    obtain rfl := Option.some.inj hx1
    obtain ⟨hc, dx, ea⟩ := (hr _ (List.getElem_mem hi)).same s1
    have fld : ∃ C, H2 rs[i].a = some (.ins C dx (legF rs[i].z)) ∧ Cls K C ∧ NoAttr K C "name" := by
      refine ⟨_, ea, ?_⟩
      rcases hc with e | e <;> rw [e]
      · exact ⟨cD, nD⟩
      · exact ⟨cI, nI⟩
    obtain ⟨C, ea', cl, nn⟩ := fld
    unfold SetT.turnT tYes
    refine ⟨rfl, ?_⟩
    dsimp only
    rw [if_pos rfl]
    refine ⟨_, rfl, _, C, dx, _, _, rfl, ea', cl, nn, legF_name _, ?_⟩
    have et : names (rs.take (i + 1)) = names (rs.take i) ++ [rs[i].z] := by
      unfold names
      rw [List.take_add_one, List.getElem?_eq_getElem hi, List.map_append]
      rfl
    refine ⟨Sum.inr rs[i].z, _, _, rfl, d1, ?_, ?_, ?_⟩
    · have h1 := SetT.nd_le (names (rs.take i)).reverse
      rw [List.length_reverse] at h1
      have h2 : (names (rs.take i)).length ≤ 1000 := by
        unfold names
        rw [List.length_map, List.length_take]
        omega
      exact Nat.lt_of_le_of_lt (show _ ≤ 1001 by omega) (by decide)
    · exact fun b o e => by
        rw [upd_ne (ne_of_none e hD)]
        exact s1 _ _ e
    · rw [upd_same, et]
      congr 2
      · funext j
        rw [List.any_append]
        simp
      · rw [List.reverse_append]
        show _ = if rs[i].z ∈ (names (rs.take i)).reverse then SetT.nd (names (rs.take i)).reverse else SetT.nd (names (rs.take i)).reverse + 1
        have e9 : ((names (rs.take i)).any fun z => decide ((Sum.inr rs[i].z : Key) = Sum.inr z)) = true ↔ rs[i].z ∈ (names (rs.take i)).reverse := by
          rw [List.any_eq_true, List.mem_reverse]
          constructor
          · rintro ⟨z, hz, e⟩
            have e := of_decide_eq_true e
            injection e with e
            rw [e]
            exact hz
          · exact fun h => ⟨_, h, decide_eq_true rfl⟩
        by_cases h9 : rs[i].z ∈ (names (rs.take i)).reverse
        · rw [if_pos h9, if_pos (e9.mpr h9)]
        · rw [if_neg h9, if_neg fun z => h9 (e9.mp z)]
  · rintro H1 ⟨s1, d1⟩
    rw [hlen, List.take_length] at d1
    exact hd H1 _ s1 d1
section
variable {P : Program} {w : World} {K : PySem.W.Frag} {mg : Str → Option Value} {base : Heap}
theorem scWrong : FnScope ["legs", "top", "ground", "power", "leg"] ["legs", "top", "ground", "power"] (defScope sWrong) := ⟨rfl, rfl, rfl, by decide +kernel, rfl, by decide +kernel, by decide +kernel⟩
theorem ok_wrong {f CF : Addr} {fd : FuncData} {ks : Kinds} (F : Fun K "wrong_frame" "wrong_frame" sWrong f fd) (T : WrT P w K mg base ks CF) : FnOk P w K mg base CX0 3 f fd ["legs", "top", "ground", "power"] (spWrong K ks) := by
  obtain ⟨fB, fdB, mB, kB, bB, GB⟩ := T.betw
  obtain ⟨mc, u, cr, cv⟩ := T.most
  refine F.ok scWrong (fun vs H Q E h => ?_) (fun cdv A outer s H vs Q E hr h => ?_)
  · obtain ⟨t, xs, T, G, R, tb, gb, pb, rfl, _⟩ := h
    rfl
  · obtain ⟨t, xs, TT, G, R, tb, gb, pb, rfl, ht, hlen, hT, hG, hR, h⟩ := h
    refine ⟨_, pss_cons (ps_if (pt_not (pt_val (pe_callB (cr_all rfl) (by rfl) T.all (by decide +kernel) (pa_cons
          (pe_lc (te := teIsL K ks) (own := [("leg", 4)]) (g := gName 4) (tt := tYes) rfl scWrong.nd (pi_tup (pv 0)) (blkOk_by (N := ["legs", "top", "ground", "power", "leg"]) (sc := defScope sWrong) (by decide +kernel))
            (fun _ _ _ _ _ => pg_name (i := 4) scWrong.nd rfl (Or.inl rfl)) (fun _ _ _ _ _ => pts_nil) (fun _ _ _ _ _ => pe_callB call_isiT (by rfl) T.isi (by decide +kernel) (pa_cons (pv 4) (pa_cons (pe_tup (pa_cons (pe_glob rfl T.mD (v := .ref ks.drv) rfl) (pa_cons (pe_glob rfl T.mI (v := .ref ks.lis) rfl) pa_nil))) pa_nil)))) pa_nil))))
        (pss_one (ps_ret pe_str)) pss_nil)
      (pss_cons (ps_if (pt_cmpR op_gt (pe_callB call_len_seq (by rfl) T.len PySem.boot_len (pa_cons (pv 0) pa_nil)) (ClX.pe_cval (pe_glob rfl T.mF (v := .ref CF) rfl)) (nomark _)) (pss_one (ps_ret pe_str)) pss_nil)
      (pss_cons (ps_if (pt_cmpR op_lt (pe_callB SetT.call_len_setK (by rfl) T.len PySem.boot_len (pa_cons
          (SetT.pe_set (te := teNm K) (own := [("leg", 4)]) (g := gName 4) (tt := tYes) rfl scWrong.nd (pi_tup (pv 0)) (blkOk_by (N := ["legs", "top", "ground", "power", "leg"]) (sc := defScope sWrong) (by decide +kernel))
            (fun _ _ _ _ _ => pg_name (i := 4) scWrong.nd rfl (Or.inl rfl)) (fun _ _ _ _ _ => pts_nil) (fun _ _ _ _ _ => pe_fld (pv 4) rfl)) pa_nil)) (pe_callB call_len_seq (by rfl) T.len PySem.boot_len (pa_cons (pv 0) pa_nil)) (nomark _)) (pss_one (ps_ret pe_str)) pss_nil)
      (pss_cons (ps_if (pt_not (pt_val (pe_call GB (hr.mono (by decide)) rfl mB kB bB .nil pass0 (pa_cons (pv 1) (pa_cons pe_int (pa_cons pe_int pa_nil)))))) (pss_one (ps_ret pe_str)) pss_nil)
      (pss_cons (ps_if (PW.pt (pw_or (pt_not (pt_val (pe_callB call_isi (by rfl) T.isi (by decide +kernel) (pa_cons (pv 2) (pa_cons (pe_bltn (by rfl) T.bool (by decide +kernel) (v := .ty "bool") rfl) pa_nil)))))
          (pw_or1 (pt_not (pt_val (pe_callB call_isi (by rfl) T.isi (by decide +kernel) (pa_cons (pv 3) (pa_cons (pe_bltn (by rfl) T.bool (by decide +kernel) (v := .ty "bool") rfl) pa_nil)))))))) (pss_one (ps_ret pe_str)) pss_nil)
      (pss_one (ps_ret pe_non)))))), ?_⟩
    have sz : ∀ H' : Hp, Same H H' → ((SqL K H' t xs ∨ SqT K H' t xs)) := fun H' s1 => .inr (SqT.of (s1 _ _ ht))
    refine ⟨_, rfl, t, rfl, ⟨xs, SqT.of ht⟩, fun D hD => ?_⟩
    rcases h with ⟨bs, hbl, hall, hb, k⟩ | ⟨rs, rfl, hrs, k⟩
    · refine isl_walk ht hD hbl hlen hb fun H1 s1 d1 => ⟨D, bs, rfl, SqL.of d1, _, rfl, ?_⟩
      rw [hall]
      exact iteT (k H1 s1)
    · have hlr : (refs rs).length = rs.length := by unfold refs; rw [List.length_map]
      have hnl : (names rs).length = rs.length := by unfold names; rw [List.length_map]
      refine isl_walk (bs := List.replicate rs.length true) ht hD (by rw [List.length_replicate, hlr]) hlen (fun i x b hx hb => ?_) fun H1 s1 d1 => ⟨D, _, rfl, SqL.of d1, _, rfl, ?_⟩
      · have hi : i < rs.length := by
          have := (List.getElem?_eq_some_iff.mp hx).1
          rw [hlr] at this
          exact this
        have e1 : (refs rs)[i]? = some (.ref rs[i].a) := by unfold refs; rw [List.getElem?_map, List.getElem?_eq_getElem hi]; rfl
        rw [e1] at hx
        obtain rfl := Option.some.inj hx
        have e2 := (List.getElem?_replicate (n := rs.length) (a := true) (i := i)).symm.trans hb
        rw [if_pos hi] at e2
        obtain rfl := Option.some.inj e2
        exact (hrs _ (List.getElem_mem hi)).isl T
      · have ea : (List.replicate rs.length true).all id = true := by
          rw [List.all_eq_true]
          intro b hb
          rw [List.eq_of_mem_replicate hb]
          rfl
        rw [ea]
        refine iteF ⟨_, rfl, t, _, rfl, sz _ s1, CF, mc, _, u, rfl, cr, cv, _, _, rfl, rfl, _, rfl, ?_⟩
        have hdue : ∀ b : V, due (names rs) tb (gb && pb) = b → ∀ H', Same H H' → Q b H' := fun b e H' s => by rw [← e]; exact k H' s
        clear k
        by_cases h40 : 40 < rs.length
        · rw [decide_eq_true (show (40 : Int) < (refs rs).length by rw [hlr]; omega)]
          refine iteT (hdue _ ?_ _ s1)
          unfold due
          rw [hnl, if_pos h40]
        · rw [decide_eq_false (show ¬ (40 : Int) < (refs rs).length by rw [hlr]; omega)]
          refine iteF ⟨_, rfl, t, rfl, ⟨refs rs, SqT.of (s1 _ _ ht)⟩, fun D2 hD2 => ?_⟩
          refine names_walk (s1 _ _ ht) hD2 (by omega) (fun r hr => (hrs r hr).same s1) T.icD.cl T.icI.cl T.nD T.nI fun H2 S s2 d2 => ?_
          have s02 := s1.trans s2
          refine ⟨D2, S, _, rfl, d2, _, rfl, t, _, rfl, sz _ s02, _, _, rfl, rfl, _, rfl, ?_⟩
          have hnd := SetT.nd_iff (names rs).reverse
          rw [List.length_reverse, hnl, (List.reverse_perm (names rs)).nodup_iff] at hnd
          by_cases hno : (names rs).Nodup
          · rw [decide_eq_false (show ¬ ((SetT.nd (names rs).reverse : Int)) < (refs rs).length by rw [hlr]; exact fun z => hnd.mp (by omega) hno)]
            refine iteF ⟨_, rfl, _, _, rfl, hT.same s02, _, rfl, ?_⟩
            have hd2 : due (names rs) tb (gb && pb) = if tb = false then .str "top" else if (gb && pb) = false then .str "rails" else .non := by
              unfold due
              rw [hnl, if_neg h40, if_pos hno]
            rw [hd2] at hdue
            cases tb with
            | false => exact iteT (hdue _ rfl _ s02)
            | true =>
              obtain ⟨tg, tyg, eg⟩ := hG.same s02
              obtain ⟨tp, typ, ep⟩ := hR.same s02
              refine iteF ⟨_, rfl, _, _, _, _, gb, rfl, .ty _, tyg, kit_ty eg, _, rfl, ?_⟩
              cases gb with
              | false => exact iteT (hdue _ rfl _ s02)
              | true =>
                refine iteF ⟨_, rfl, _, _, _, _, pb, rfl, .ty _, typ, kit_ty ep, _, rfl, ?_⟩
                cases pb with
                | false => exact iteT (hdue _ rfl _ s02)
                | true => exact iteF (hdue _ rfl _ s02)
          · rw [decide_eq_true (show ((SetT.nd (names rs).reverse : Int)) < (refs rs).length by rw [hlr]; have := hnd.mpr hno; omega)]
            refine iteT (hdue _ ?_ _ s02)
            unfold due
            rw [hnl, if_neg h40, if_neg hno]
end
end Sj
namespace Sj
open PySem L2 Sup
open NdefX (NF NScope ncx envF startF nscope_by)
open C8 (pss_cut tCut)
abbrev sFrI : Stmt := inClass (top 22) 1
/-- raise InvalidFrame(e), e a short text -/
theorem raise_inv {K : PySem.W.Frag} {CI : Addr} {z : Str} {σ : L2.St} {H H1 : Hp} {te : TE} {Q : XK} (hte : ∀ Q' : VK, Q' (.str z) H1 → te σ H1 Q') (hz : (reprText z).length ≤ 1000) (s1 : Same H H1)
    (k : ∀ d H', errH H H' d "reason" (.str z) → Q (.ref CI) (some d) H') : tMkO CI (spInv K CI) [] (tCons te tNil) σ H1 Q := by
  refine hte _ ⟨by show 1 ≤ 1000; decide, fun a ha => ⟨a, z, rfl, hz, upd_same, fun d hd hda => ⟨rfl, d, [("reason", .str z)], upd_same, ?_, ?_, ?_⟩⟩⟩
  · rw [upd_ne hda, upd_same]
  · rw [upd_ne hda] at hd
    exact hd
  · refine k d _ ⟨?_, upd_same, fun b o e => ?_⟩
    · rw [upd_ne hda] at hd
      exact s1.free hd
    · rw [upd_ne hda] at hd
      have e1 := s1 _ _ e
      have nbd : b ≠ d := ne_of_none e1 hd
      have nba : b ≠ a := ne_of_none e1 ha
      rw [upd_ne nbd, del_ne nba, upd_ne nba, upd_ne nbd, upd_ne nba]
      exact e1
/-- a frame's attributes -/
def frF (D : Addr) (T G R : V) : List (Str × V) := putF "power" R (putF "ground" G (putF "top" T (putF "_legs" (.ref D) [])))
def legRow (r : LegR) : Key × V := (Sum.inr r.z, .ref r.a)
/-- a frame stands at a: its legs, sorted by name -/
def FrAt (H : Hp) (a C : Addr) (ys : List LegR) (T G R : V) : Prop := ∃ dx D, H a = some (.ins C dx (frF D T G R)) ∧ H D = some (.dK (ys.map legRow)) ∧ D ≠ a
theorem FrAt.same {H H' : Hp} {a C : Addr} {ys : List LegR} {T G R : V} (h : FrAt H a C ys T G R) (s : Same H H') : FrAt H' a C ys T G R := by
  obtain ⟨dx, D, h1, h2, h3⟩ := h
  exact ⟨dx, D, s _ _ h1, s _ _ h2, h3⟩
/-- rows put in order -/
def Ordd (rs ys : List LegR) : Prop := ys.Perm rs ∧ PyProof.Rows.sortedS (names ys) = true
/-- Frame.__init__ -/
def spFrI (K : PySem.W.Frag) (ks : Kinds) (CI CF : Addr) : Sp := fun vs H Q E => ∃ (a dx t : Addr) (xs : List V) (T G R : V) (tb gb pb : Bool), vs = [.ref a, T, G, R, .ref t] ∧ H a = some (.ins CF dx []) ∧ H t = some (.tup xs) ∧ xs.length ≤ 1000 ∧ TopIs K H T tb ∧ RailIs K H G gb ∧ RailIs K H R pb ∧
  ((∃ bs : List Bool, bs.length = xs.length ∧ bs.all id = false ∧ (∀ (i : Nat) (x : V) (b : Bool), xs[i]? = some x → bs[i]? = some b → IsL K ks H x b) ∧ ∀ d H', errH H H' d "reason" (.str "legs") → E (.ref CI) (some d) H') ∨
   ∃ rs : List LegR, xs = refs rs ∧ (∀ r ∈ rs, r.ok ks H) ∧ (∀ z, due (names rs) tb (gb && pb) = .str z → ∀ d H', errH H H' d "reason" (.str z) → E (.ref CI) (some d) H') ∧
     (due (names rs) tb (gb && pb) = .non → ∀ H' ys, Ordd rs ys → FrAt H' a CF ys T G R → But H H' a → Q .non H'))
structure FrT (P : Program) (w : World) (K : PySem.W.Frag) (mg : Str → Option Value) (base : Heap) (ks : Kinds) (CI fI CF : Addr) : Prop where
  wr : WrT P w K mg base ks CF
  sorted : mg "sorted" = none
  mI : mg "InvalidFrame" = some (.ref CI)
  ex : ExT P K mg CI "reason"
  iC : PySem.W.findIn K (.ref CI) "__init__" = some (some (.ref fI))
  tI : PySem.W.typeIn K (.ref fI) = some (.type "function")
  inv : ∃ fdI, Binds K fdI ["self", "reason"] [] ∧ FnOk P w K mg base CX0 1 fI fdI ["self", "reason"] (spInv K CI)
  wrong : ∃ f fd, mg "wrong_frame" = some (.ref f) ∧ PySem.W.keepIn K (.ref f) = true ∧ Binds K fd ["legs", "top", "ground", "power"] [] ∧ FnOk P w K mg base CX0 3 f fd ["legs", "top", "ground", "power"] (spWrong K ks)
  cl : Cls K CF
  nL : NoAttr K CF "_legs"
  nT : NoAttr K CF "top"
  nG : NoAttr K CF "ground"
  nP : NoAttr K CF "power"
theorem due_str {zs : List Str} {tb rb : Bool} {z : Str} (h : due zs tb rb = .str z) : (reprText z).length ≤ 1000 := by
  unfold due at h
  have hh : z = "many" ∨ z = "top" ∨ z = "rails" ∨ z = "name" := by
    split at h
    · exact .inl (V.str.inj h).symm
    · split at h
      · split at h
        · exact .inr (.inl (V.str.inj h).symm)
        · split at h
          · exact .inr (.inr (.inl (V.str.inj h).symm))
          · cases h
      · exact .inr (.inr (.inr (V.str.inj h).symm))
  rcases hh with rfl | rfl | rfl | rfl <;> decide +kernel
theorem due_cases (zs : List Str) (tb rb : Bool) : due zs tb rb = .non ∨ ∃ z, due zs tb rb = .str z := by
  unfold due
  split
  · exact .inr ⟨_, rfl⟩
  · split
    · split
      · exact .inr ⟨_, rfl⟩
      · split
        · exact .inr ⟨_, rfl⟩
        · exact .inl rfl
    · exact .inr ⟨_, rfl⟩
theorem due_non {zs : List Str} {tb rb : Bool} (h : due zs tb rb = .non) : zs.length ≤ 40 ∧ zs.Nodup := by
  unfold due at h
  split at h
  · cases h
  · split at h
    · rename_i h1 h2
      exact ⟨by omega, h2⟩
    · cases h
theorem perm_rows : ∀ (ys : List Str) (rs : List LegR), ys.Perm (names rs) → ∃ qs : List LegR, qs.Perm rs ∧ names qs = ys
  | [], rs, h => by
    have e := h.length_eq
    unfold names at e
    rw [List.length_map] at e
    obtain rfl : rs = [] := List.length_eq_zero_iff.mp e.symm
    exact ⟨[], .refl _, rfl⟩
  | y :: ys, rs, h => by
    have hy : y ∈ names rs := h.mem_iff.mp List.mem_cons_self
    obtain ⟨r, hr, e⟩ := List.mem_map.mp hy
    obtain ⟨l1, l2, rfl⟩ := List.append_of_mem hr
    have p1 : (l1 ++ r :: l2).Perm (r :: (l1 ++ l2)) := List.perm_middle
    have h2 : (y :: ys).Perm (y :: names (l1 ++ l2)) := by
      have q := h.trans (p1.map fun r : LegR => r.z)
      rw [List.map_cons, e] at q
      exact q
    obtain ⟨qs, hq, en⟩ := perm_rows ys (l1 ++ l2) h2.cons_inv
    refine ⟨r :: qs, (List.Perm.cons r hq).trans p1.symm, ?_⟩
    show r.z :: names qs = _
    rw [en, e]
theorem valV_rows : ∀ (rs : List LegR) (r : LegR), (names rs).Nodup → r ∈ rs → valV (rs.map legRow) (Sum.inr r.z) = some (.ref r.a)
  | q :: rs, r, hn, hr => by
    unfold names at hn
    rw [List.map_cons, List.nodup_cons] at hn
    rcases List.mem_cons.mp hr with rfl | hr
    · exact valV_pos rfl
    · have ne : ¬ (legRow q).1 = Sum.inr r.z := fun z => by
        injection z with z
        exact hn.1 (List.mem_map.mpr ⟨r, hr, z.symm⟩)
      rw [List.map_cons, valV_neg ne]
      exact valV_rows rs r hn.2 hr
theorem valV_out : ∀ (rs : List LegR) (z : Str), z ∉ names rs → valV (rs.map legRow) (Sum.inr z) = none
  | [], _, _ => rfl
  | q :: rs, z, h => by
    have ne : ¬ (legRow q).1 = Sum.inr z := fun e => by
      injection e with e
      exact h (List.mem_map.mpr ⟨q, List.mem_cons_self, e⟩)
    rw [List.map_cons, valV_neg ne]
    exact valV_out rs z fun hz => h (List.mem_cons_of_mem _ hz)
end Sj
namespace Sj
open PySem L2 Sup
open NdefX (NF NScope ncx envF startF nscope_by)
open C8 (pss_cut tCut)
abbrev nFr : List Str := ["self", "top", "ground", "power", "legs", "reason", "by_name", "leg", "name"]
theorem scFrI : FnScope nFr ["self", "top", "ground", "power", "legs"] (defScope sFrI) := ⟨rfl, rfl, rfl, by decide +kernel, rfl, by decide +kernel, by decide +kernel⟩
def teNm7 (K : PySem.W.Frag) : TE := tFld K (tVar 7) "name"
def teGet : TE := tDGet (tVar 6) (tVar 8)
section
variable {P : Program} {w : World} {K : PySem.W.Frag} {mg : Str → Option Value} {base : Heap}
theorem body_frI {CI fI CF f : Addr} {ks : Kinds} (T : FrT P w K mg base ks CI fI CF) (cdv : Value) (A : Around) (outer : List Env) (s : Shared) (H : Hp) (vs : List V) (Q : VK) (E : XK)
    (hr : Room 3 (A.deeper (PyProof.Rows.envOfC "Frame.__init__" (defScope sFrI) s.heap.objs.size f cdv))) (h : spFrI K ks CI CF vs H Q E) :
    ∃ t, PSs (cxOf (L2.CX P w) P w K mg base nFr "Frame.__init__" (defScope sFrI) f cdv A outer s H E) (defBody sFrI) t ∧ t { nx := fun _ H' => Q .non H', rt := Q } (start nFr vs) H := by
  obtain ⟨fdI, bI, GI⟩ := T.inv
  obtain ⟨fW, fdW, mW, kW, bW, GW⟩ := T.wrong
  have hr1 := hr.mono (show 2 ≤ 3 by decide)
  obtain ⟨a, dx, t, xs, TT, G, R, tb, gb, pb, rfl, ha, ht, hlen, hT, hG, hR, h⟩ := h
  refine ⟨_, pss_cons (ps_set (i := 5) scFrI.nd rfl (Or.inl rfl) (pe_call GW hr rfl mW kW bW .nil pass0 (pa_cons (pv 4) (pa_cons (pv 1) (pa_cons (pv 2) (pa_cons (pv 3) pa_nil))))))
      (pss_cons (ps_if (pt_cmpR op_notN (pv 5) pe_non (nomark _)) (pss_one (ps_raise rfl (takes_of rfl rfl rfl rfl) (pmk_oex T.ex.oex T.iC T.tI GI hr1 bI .nil pass0 rfl T.mI (pa_cons (pv 5) pa_nil)))) pss_nil)
      (pss_cons (ps_set (i := 6) scFrI.nd rfl (Or.inr rfl) (pe_dc (tk := teNm7 K) (tv := tVar 7) (own := [("leg", 7)]) (g := gName 7) (tt := tYes) rfl scFrI.nd (pi_tup (pv 4)) (blkOk_by (N := nFr) (sc := defScope sFrI) (by decide +kernel))
          (fun _ _ _ _ _ => pg_name (i := 7) scFrI.nd rfl (Or.inl rfl)) (fun _ _ _ _ _ => pts_nil) (fun _ _ _ _ _ => pe_fld (pv 7) rfl) (fun _ _ _ _ _ => pv 7)))
      (pss_cons (ps_fld (pv 0) (pe_dc (tk := tVar 8) (tv := teGet) (own := [("name", 8)]) (g := gName 8) (tt := tYes) rfl scFrI.nd (pi_list (pe_callB (call_sortedD rfl) (by rfl) T.sorted (by decide +kernel) (pa_cons (pv 6) pa_nil))) (blkOk_by (N := nFr) (sc := defScope sFrI) (by decide +kernel))
          (fun _ _ _ _ _ => pg_name (i := 8) scFrI.nd rfl (Or.inl rfl)) (fun _ _ _ _ _ => pts_nil) (fun _ _ _ _ _ => pv 8) (fun _ _ _ _ _ => pe_dget (hu_of hr) (pv 6) (pv 8) (fun _ _ => rfl))) rfl)
      (pss_cons (ps_fld (pv 0) (pv 1) rfl) (pss_cons (ps_fld (pv 0) (pv 2) rfl) (pss_one (ps_fld (pv 0) (pv 3) rfl))))))), ?_⟩
  rcases h with ⟨bs, hbl, hall, hb, k⟩ | ⟨rs, rfl, hrs, k1, k2⟩
  · refine ⟨_, rfl, _, rfl, _, rfl, _, rfl, t, xs, TT, G, R, tb, gb, pb, rfl, ht, hlen, hT, hG, hR, .inl ⟨bs, hbl, hall, hb, fun H1 s1 => ?_⟩⟩
    refine ⟨_, rfl, rfl, _, rfl, iteT ?_⟩
    exact raise_inv (fun Q' q => ⟨_, rfl, q⟩) (by decide +kernel) s1 k
  · have hlr : (refs rs).length = rs.length := by unfold refs; rw [List.length_map]
    have hnl : (names rs).length = rs.length := by unfold names; rw [List.length_map]
    refine ⟨_, rfl, _, rfl, _, rfl, _, rfl, t, refs rs, TT, G, R, tb, gb, pb, rfl, ht, hlen, hT, hG, hR, .inr ⟨rs, rfl, hrs, fun H1 s1 => ?_⟩⟩
    rcases due_cases (names rs) tb (gb && pb) with e | ⟨z, e⟩
    · rw [e]
      obtain ⟨h40, hno⟩ := due_non e
      rw [hnl] at h40
      refine ⟨_, rfl, rfl, _, rfl, iteF ⟨_, rfl, t, rfl, ⟨refs rs, SqT.of (s1 _ _ ht)⟩, fun D hD => ?_⟩⟩
      have sD : ∀ (o : HO), Same H1 (upd H1 D o) := fun o b u e => by rw [upd_ne (ne_of_none e hD)]; exact e
      refine SetT.dict_it (walk_tup (K := K) (a := t) (xs := refs rs)) (fun i H' => Same H1 H' ∧ H' D = some (.dK ((rs.take i).map legRow))) ⟨sD _, by rw [upd_same]; rfl⟩ (fun i H' _ p => .inl (.inl (p.1 _ _ (s1 _ _ ht)))) ?_ ?_
      · rintro i x H2 H3 hi ⟨s2, d2⟩ ⟨rfl, hx1⟩
        rw [hlr] at hi
        have e1 : (refs rs)[i]? = some (.ref rs[i].a) := by unfold refs; rw [List.getElem?_map, List.getElem?_eq_getElem hi]; rfl
        rw [e1] at hx1
        obtain rfl := Option.some.inj hx1
        obtain ⟨hc, dy, eb⟩ := (hrs _ (List.getElem_mem hi)).same (s1.trans s2)
        have fld : ∃ C, H3 rs[i].a = some (.ins C dy (legF rs[i].z)) ∧ Cls K C ∧ NoAttr K C "name" := by
          refine ⟨_, eb, ?_⟩
          rcases hc with e | e <;> rw [e]
          · exact ⟨T.wr.icD.cl, T.wr.nD⟩
          · exact ⟨T.wr.icI.cl, T.wr.nI⟩
        obtain ⟨C, eb', cl, nn⟩ := fld
        refine ⟨rfl, ?_⟩
        unfold tYes
        dsimp only
        rw [if_pos rfl]
        have hti : (names (rs.take i)) = (names rs).take i := by unfold names; rw [List.map_take]
        have hout : rs[i].z ∉ names (rs.take i) := by
          have hi' : i < (names rs).length := by rw [hnl]; exact hi
          have ez : (names rs)[i] = rs[i].z := List.getElem_map (fun r : LegR => r.z)
          rw [hti, ← ez]
          intro hm
          obtain ⟨j, hj, ej⟩ := List.getElem_of_mem hm
          rw [List.length_take] at hj
          rw [List.getElem_take] at ej
          have := (List.getElem_inj hno).mp ej
          omega
        refine ⟨_, rfl, _, C, dy, _, _, rfl, eb', cl, nn, legF_name _, _, rfl, _, Sum.inr rs[i].z, rfl, d2, ?_, ?_, ?_⟩
        · rw [List.length_map, List.length_take]
          exact Nat.lt_of_le_of_lt (Nat.min_le_right _ _) (Nat.lt_of_le_of_lt (show rs.length ≤ 1000 by omega) (by decide))
        · exact fun b o e => by
            rw [upd_ne (ne_of_none e hD)]
            exact s2 _ _ e
        · rw [upd_same, putK_new _ (valV_out _ _ hout), List.take_add_one, List.getElem?_eq_getElem hi, List.map_append]
          rfl
      · rintro H2 ⟨s2, d2⟩
        rw [hlr, List.take_length] at d2
        have s02 := s1.trans s2
        clear k1
        refine ⟨_, rfl, D, _, names rs, rfl, .inl d2, ?_, by rw [hnl]; omega, fun ys q hp hs hq => ?_⟩
        · unfold names
          rw [List.map_map, List.map_map]
          rfl
        obtain ⟨qs, hqs, rfl⟩ := perm_rows ys rs hp
        obtain ⟨H3, eH3⟩ : ∃ H3, H3 = upd H2 q (.lst ((names qs).map V.str)) := ⟨_, rfl⟩
        have s3 : Same H2 H3 := fun b o e => by rw [eH3, upd_ne (ne_of_none e hq)]; exact e
        have hq3 : H3 q = some (.lst ((names qs).map V.str)) := by rw [eH3, upd_same]
        rw [← eH3]
        have s03 := s02.trans s3
        have hql : ((names qs).map V.str).length = qs.length := by unfold names; rw [List.length_map, List.length_map]
        have hqr : qs.length = rs.length := hqs.length_eq
        have hnq : (names qs).Nodup := (hqs.map fun r : LegR => r.z).nodup_iff.mpr hno
        refine ⟨q, rfl, ⟨_, SqL.of hq3⟩, fun D2 hD2 => ?_⟩
        have sD2 : ∀ (o : HO), Same H3 (upd H3 D2 o) := fun o b u e => by rw [upd_ne (ne_of_none e hD2)]; exact e
        refine SetT.dict_it (walk_list (K := K) (a := q) (xs := (names qs).map V.str)) (fun i H' => Same H3 H' ∧ H' D2 = some (.dK ((qs.take i).map legRow))) ⟨sD2 _, by rw [upd_same]; rfl⟩ (fun i H' _ p => SqL.of (p.1 _ _ hq3)) ?_ ?_
        · rintro i x H4 H5 hi ⟨s4, d4⟩ ⟨rfl, hx1⟩
          rw [hql] at hi
          have e1 : ((names qs).map V.str)[i]? = some (.str qs[i].z) := by unfold names; rw [List.map_map, List.getElem?_map, List.getElem?_eq_getElem hi]; rfl
          rw [e1] at hx1
          obtain rfl := Option.some.inj hx1
          refine ⟨rfl, ?_⟩
          unfold tYes
          dsimp only
          rw [if_pos rfl]
          have hti : (names (qs.take i)) = (names qs).take i := by unfold names; rw [List.map_take]
          have hout : qs[i].z ∉ names (qs.take i) := by
            have hi' : i < (names qs).length := by unfold names; rw [List.length_map]; exact hi
            have ez : (names qs)[i] = qs[i].z := List.getElem_map (fun r : LegR => r.z)
            rw [hti, ← ez]
            intro hm
            obtain ⟨j, hj, ej⟩ := List.getElem_of_mem hm
            rw [List.length_take] at hj
            rw [List.getElem_take] at ej
            have := (List.getElem_inj hnq).mp ej
            omega
          have hg : DGet H5 D (.str qs[i].z) (some (.ref qs[i].a)) := by
            rw [← valV_rows rs qs[i] hno (hqs.mem_iff.mp (List.getElem_mem hi))]
            exact DGet.k (k := Sum.inr qs[i].z) (s4 _ _ (s3 _ _ d2))
          refine ⟨_, rfl, _, rfl, _, rfl, D, _, rfl, hg, _, Sum.inr qs[i].z, rfl, d4, ?_, ?_, ?_⟩
          · rw [List.length_map, List.length_take]
            exact Nat.lt_of_le_of_lt (Nat.min_le_right _ _) (Nat.lt_of_le_of_lt (show qs.length ≤ 1000 by omega) (by decide))
          · exact fun b o e => by
              rw [upd_ne (ne_of_none e hD2)]
              exact s4 _ _ e
          · rw [upd_same, putK_new _ (valV_out _ _ hout), List.take_add_one, List.getElem?_eq_getElem hi, List.map_append]
            rfl
        · rintro H4 ⟨s4, d4⟩
          rw [hql, List.take_length] at d4
          have s04 := s03.trans s4
          have ha4 := s04 _ _ ha
          have nDa : D2 ≠ a := fun z => by rw [z] at hD2; rw [s03 _ _ ha] at hD2; cases hD2
          refine ⟨_, rfl, a, CF, dx, [], rfl, ha4, T.cl, T.nL, by show 0 < 1000; decide, ?_⟩
          refine ⟨_, rfl, _, rfl, a, CF, dx, _, rfl, upd_same, T.cl, T.nT, by show 1 < 1000; decide, ?_⟩
          refine ⟨_, rfl, _, rfl, a, CF, dx, _, rfl, upd_same, T.cl, T.nG, by show 2 < 1000; decide, ?_⟩
          refine ⟨_, rfl, _, rfl, a, CF, dx, _, rfl, upd_same, T.cl, T.nP, by show 3 < 1000; decide, ?_⟩
          refine k2 e _ qs ⟨hqs, hs⟩ ⟨dx, D2, upd_same, ?_, nDa⟩ fun b o hb eb => ?_
          · rw [upd_ne nDa, upd_ne nDa, upd_ne nDa, upd_ne nDa]
            exact d4
          · rw [upd_ne hb, upd_ne hb, upd_ne hb, upd_ne hb]
            exact s04 _ _ eb
    · rw [e]
      refine ⟨_, rfl, rfl, _, rfl, iteT ?_⟩
      exact raise_inv (fun Q' q => ⟨_, rfl, q⟩) (due_str e) s1 (k1 z e)
end
end Sj
namespace Sj
open PySem L2 Sup StK
open NdefX (NF NScope ncx envF startF nscope_by)
open C8 (pss_cut tCut)
abbrev sOf : Stmt := inClass (top 22) 2
def kwsF : List (Str × V) := [("top", .int 1), ("ground", .bl false), ("power", .bl false)]
abbrev ksB : List Str := ["top", "ground", "power"]
theorem errH.of {H H1 H' : Hp} {d : Addr} {fld : Str} {v : V} (h : errH H1 H' d fld v) (s : Same H H1) : errH H H' d fld v := ⟨s.free h.1, h.2.1, s.trans h.2.2⟩
section
variable {P : Program} {w : World} {K : PySem.W.Frag} {mg : Str → Option Value} {base : Heap}
theorem fr_kwB {CI fI CF f : Addr} {fd : FuncData} {ks : Kinds} (F : FunD K "__init__" "Frame.__init__" (defArgs sFrI) (defBody sFrI) (defScope sFrI) [] kwsF f fd) (T : FrT P w K mg base ks CI fI CF) :
    FnK P w K mg base (L2.CX P w) 4 f ksB (spStarK 1 (fun vs zs => vs ++ zs) (spFrI K ks CI CF)) :=
  fn_starK (ps := ["self", "top", "ground", "power"]) (pv := "legs") F scFrI StX.cxUp 1 ksB [] (fun us mv ws => us ++ ws) (by decide) (fun q h => nomatch h) (fun r1 _ r3 => r1.append r3)
    (fun us mv ws h1 _ h3 => by rw [List.length_append, h1, h3] <;> rfl)
    (fun D doc pm an cdv ct us rest mv ws h1 h2 h3 => match us, rest, mv, ws, h1, h2, h3 with
      | [a], [], [], [x, y, z], _, _, _ => rfl
      | [a], r :: rs, [], [x, y, z], _, _, _ => rfl)
    (fun cdv A outer s H vs Q E hr h => body_frI T cdv A outer s H vs Q E hr h)
end
end Sj
namespace Sj
open PySem L2 Sup StK
open NdefX (NF NScope ncx envF startF nscope_by)
open C8 (pss_cut tCut)
/-- what is asked of legs xs, with top, rails: the outcomes of the making of a frame, from H on -/
def Outc (K : PySem.W.Frag) (ks : Kinds) (CI CF : Addr) (xs : List V) (T G R : V) (tb rb : Bool) (H : Hp) (Q : VK) (E : XK) : Prop :=
  (∃ bs : List Bool, bs.length = xs.length ∧ bs.all id = false ∧ (∀ (i : Nat) (x : V) (b : Bool), xs[i]? = some x → bs[i]? = some b → IsL K ks H x b) ∧ ∀ d H', errH H H' d "reason" (.str "legs") → E (.ref CI) (some d) H') ∨
   ∃ rs : List LegR, xs = refs rs ∧ (∀ r ∈ rs, r.ok ks H) ∧ (∀ z, due (names rs) tb rb = .str z → ∀ d H', errH H H' d "reason" (.str z) → E (.ref CI) (some d) H') ∧
     (due (names rs) tb rb = .non → ∀ a H' ys, H a = none → Ordd rs ys → FrAt H' a CF ys T G R → Same H H' → Q (.ref a) H')
/-- the making keeps its promise -/
theorem mk_outc {K : PySem.W.Frag} {ks : Kinds} {CI CF : Addr} {xs : List V} {T G R : V} {tb gb pb : Bool} {H0 H : Hp} {Q : VK} {E : XK} {gV : List V → List V → List V} {zs : List V} (hg : ∀ x : Addr, gV [.ref x] zs = [.ref x, T, G, R]) (s0 : Same H0 H) (hlen : xs.length ≤ 1000)
    (hT : TopIs K H0 T tb) (hG : RailIs K H0 G gb) (hR : RailIs K H0 R pb) (o : Outc K ks CI CF xs T G R tb (gb && pb) H0 Q E) : spMk CF (spStarK 1 gV (spFrI K ks CI CF)) E xs zs H Q := by
  intro x dx hx hdx hne
  have s1 : Same H (upd (upd H dx (.own x)) x (.ins CF dx [])) := fun b o e => by
    rw [upd_ne (ne_of_none e hx), upd_ne (ne_of_none e hdx)]
    exact e
  refine ⟨[.ref x], xs, rfl, rfl, Nat.le_trans hlen (by decide), fun p hp => ?_⟩
  obtain ⟨H2, e2⟩ : ∃ H2, H2 = upd (upd (upd H dx (.own x)) x (.ins CF dx [])) p (.tup xs) := ⟨_, rfl⟩
  have hxp : x ≠ p := ne_of_none upd_same hp
  have hx2 : H2 x = some (.ins CF dx []) := by rw [e2, upd_ne hxp, upd_same]
  have hp2 : H2 p = some (.tup xs) := by rw [e2, upd_same]
  have s2 : Same H H2 := fun b o e => by
    rw [e2, upd_ne (ne_of_none (s1 _ _ e) hp)]
    exact s1 _ _ e
  have s02 := s0.trans s2
  rw [hg, ← e2]
  refine ⟨x, dx, p, xs, T, G, R, tb, gb, pb, rfl, hx2, hp2, hlen, hT.same s02, hG.same s02, hR.same s02, ?_⟩
  rcases o with ⟨bs, h1, h2, h3, k⟩ | ⟨rs, h1, h2, k1, k2⟩
  · exact .inl ⟨bs, h1, h2, fun i x b e1 e2 => (h3 i x b e1 e2).same s02, fun d H' e => k d H' (e.of s02)⟩
  · refine .inr ⟨rs, h1, fun r hr => (h2 r hr).same s02, fun z hz d H' e => k1 z hz d H' (e.of s02), fun hd H' ys ho hf hb => ⟨rfl, k2 hd x H' ys (s0.free hx) ho hf fun b o e => ?_⟩⟩
    exact hb b o (ne_of_none e (s0.free hx)) (s02 _ _ e)
/-- Frame.of -/
def spOf (K : PySem.W.Frag) (ks : Kinds) (CI CF : Addr) : Sp := fun vs H Q E => ∃ (x T G R : V) (tb gb pb : Bool), vs = [.ref CF, x, T, G, R] ∧ TopIs K H T tb ∧ RailIs K H G gb ∧ RailIs K H R pb ∧
  ((∃ t, TyX K H x t ∧ PySem.W.kitAny K t [.type "list", .type "tuple"] = some false ∧ ∀ d H', errH H H' d "reason" (.str "legs") → E (.ref CI) (some d) H') ∨
   ∃ (l : Addr) (xs : List V), x = .ref l ∧ (H l = some (.lst xs) ∨ H l = some (.tup xs)) ∧ xs.length ≤ 1000 ∧ Outc K ks CI CF xs T G R tb (gb && pb) H Q E)
structure OfT (P : Program) (w : World) (K : PySem.W.Frag) (mg : Str → Option Value) (base : Heap) (ks : Kinds) (CI fI CF fF : Addr) : Prop where
  isi : mg "isinstance" = none
  list : mg "list" = none
  tuple : mg "tuple" = none
  mI : mg "InvalidFrame" = some (.ref CI)
  ex : ExT P K mg CI "reason"
  iC : PySem.W.findIn K (.ref CI) "__init__" = some (some (.ref fI))
  tI : PySem.W.typeIn K (.ref fI) = some (.type "function")
  inv : ∃ fdI, Binds K fdI ["self", "reason"] [] ∧ FnOk P w K mg base CX0 1 fI fdI ["self", "reason"] (spInv K CI)
  mkc : Mk K CF fF
  kt : PySem.W.kitAny K (.type "list") [.type "list", .type "tuple"] = some true
  kt2 : PySem.W.kitAny K (.type "tuple") [.type "list", .type "tuple"] = some true
section
variable {P : Program} {w : World} {K : PySem.W.Frag} {mg : Str → Option Value} {base : Heap}
theorem scOf : FnScope ["cls", "legs", "top", "ground", "power"] ["cls", "legs", "top", "ground", "power"] (defScope sOf) := ⟨rfl, rfl, rfl, by decide +kernel, rfl, by decide +kernel, by decide +kernel⟩
theorem ok_of {CI fI CF fF f : Addr} {fd : FuncData} {ks : Kinds} (F : FunD K "of" "Frame.of" (defArgs sOf) (defBody sOf) (defScope sOf) [] kwsF f fd) (T : OfT P w K mg base ks CI fI CF fF)
    (GF : FnK P w K mg base (L2.CX P w) 4 fF ksB (spStarK 1 (fun vs zs => vs ++ zs) (spFrI K ks CI CF))) : FnOk P w K mg base (L2.CX P w) 6 f fd ["cls", "legs", "top", "ground", "power"] (spOf K ks CI CF) := by
  obtain ⟨fdI, bI, GI⟩ := T.inv
  refine F.ok scOf (fun vs H Q E h => ?_) (fun cdv A outer s H vs Q E hr h => ?_)
  · obtain ⟨x, T, G, R, tb, gb, pb, rfl, _⟩ := h
    rfl
  · obtain ⟨x, TT, G, R, tb, gb, pb, rfl, hT, hG, hR, h⟩ := h
    refine ⟨_, pss_cons (ps_if (pt_not (pt_val (pe_callB call_isiT (by rfl) T.isi (by decide +kernel) (pa_cons (pv 1) (pa_cons (pe_tup (pa_cons (pe_bltn (by rfl) T.list (by decide +kernel) (v := .ty "list") rfl) (pa_cons (pe_bltn (by rfl) T.tuple (by decide +kernel) (v := .ty "tuple") rfl) pa_nil))) pa_nil)))))
        (pss_one (ps_raise rfl (takes_of rfl rfl rfl rfl) (pmk_oex T.ex.oex T.iC T.tI GI (hr.mono (by decide)) bI .nil pass0 rfl T.mI (pa_cons pe_str pa_nil)))) pss_nil)
      (pss_one (ps_ret (pe_makeT T.mkc GF hr (passes_call (takes_of rfl rfl rfl rfl) fun _ _ _ _ h => h) (pv 0) (pv 1) (pk_cons (pv 2) (pk_cons (pv 3) (pk_cons (pv 4) pk_nil)))))), ?_⟩
    have lay : ∀ (t : Value) (b : Bool) (Q' : VK), TyX K H x t → PySem.W.kitAny K t [.type "list", .type "tuple"] = some b → (∀ H', Same H H' → Q' (.bl b) H') →
        tCB (rIsiT K) (tCons (tVar 1) (tCons (tTup (tCons (tC (.ty "list")) (tCons (tC (.ty "tuple")) tNil))) tNil)) (L2.start ["cls", "legs", "top", "ground", "power"] [.ref CF, x, TT, G, R]) H Q' := by
      intro t b Q' ty e k
      refine ⟨_, rfl, by show 2 ≤ sizeLine; decide, fun p hp => ?_⟩
      have s1 : Same H (upd H p (.tup [.ty "list", .ty "tuple"])) := fun b o e => by rw [upd_ne (ne_of_none e hp)]; exact e
      exact ⟨x, p, [.ty "list", .ty "tuple"], t, [.type "list", .type "tuple"], b, rfl, upd_same, .cons (.ty _) (.cons (.ty _) .nil), tyx_same ty s1, e, k _ s1⟩
    rcases h with ⟨t, ty, e, k⟩ | ⟨l, xs, rfl, hl, hlen, o⟩
    · refine lay t false _ ty e fun H1 s1 => ⟨_, rfl, iteT ?_⟩
      exact raise_inv (fun Q' q => q) (by decide +kernel) s1 k
    · have hty : ∃ t, TyX K H (.ref l) t ∧ PySem.W.kitAny K t [.type "list", .type "tuple"] = some true := by
        rcases hl with h | h
        · exact ⟨_, .base (.lst h), T.kt⟩
        · exact ⟨_, .base (.tup h), T.kt2⟩
      obtain ⟨t, ty, e⟩ := hty
      refine lay t true _ ty e fun H1 s1 => ⟨_, rfl, iteF ?_⟩
      refine ⟨_, rfl, rfl, _, rfl, _, rfl, _, rfl, _, rfl, rfl, l, xs, rfl, ?_, ?_⟩
      · rcases hl with h | h
        · exact .inr (SqL.of (s1 _ _ h))
        · exact .inl (SqT.of (s1 _ _ h))
      · exact mk_outc (fun x => rfl) s1 hlen hT hG hR o
end
end Sj
namespace Sj
open PySem L2 Sup StK
open NdefX (NF NScope ncx envF startF nscope_by)
open C8 (pss_cut tCut)
/-! Frame's own small methods (k03, k05): len, in, legs, names -/
abbrev sFr (i : Nat) : Stmt := inClass (top 22) i
theorem frF_legs (D : Addr) (T G R : V) : (frF D T G R).lookup ("_legs" : Str) = some (.ref D) := by
  unfold frF
  rw [lookup_putF, if_neg (by decide +kernel), lookup_putF, if_neg (by decide +kernel), lookup_putF, if_neg (by decide +kernel), lookup_putF, if_pos rfl]
theorem frF_top (D : Addr) (T G R : V) : (frF D T G R).lookup ("top" : Str) = some T := by
  unfold frF
  rw [lookup_putF, if_neg (by decide +kernel), lookup_putF, if_neg (by decide +kernel), lookup_putF, if_pos rfl]
theorem frF_ground (D : Addr) (T G R : V) : (frF D T G R).lookup ("ground" : Str) = some G := by
  unfold frF
  rw [lookup_putF, if_neg (by decide +kernel), lookup_putF, if_pos rfl]
theorem frF_power (D : Addr) (T G R : V) : (frF D T G R).lookup ("power" : Str) = some R := by
  unfold frF
  rw [lookup_putF, if_pos rfl]
def spFLen (C : Addr) : Sp := fun vs H Q _ => ∃ (a : Addr) (ys : List LegR) (T G R : V), vs = [.ref a] ∧ FrAt H a C ys T G R ∧ Q (.int ys.length) H
def spFIn (K : PySem.W.Frag) (C : Addr) : Sp := fun vs H Q _ => ∃ (a : Addr) (ys : List LegR) (T G R x : V), vs = [.ref a, x] ∧ FrAt H a C ys T G R ∧
  ((∃ z : Str, x = .str z ∧ Q (.bl (decide (z ∈ names ys))) H) ∨ ∃ t : String, TyX K H x (.type t) ∧ kitB t "str" = some false ∧ Q (.bl false) H)
structure FmT (K : PySem.W.Frag) (mg : Str → Option Value) (C : Addr) : Prop where
  cl : Cls K C
  nL : NoAttr K C "_legs"
  len : mg "len" = none
  isi : mg "isinstance" = none
  str : mg "str" = none
theorem valV_in : ∀ (rs : List LegR) (z : Str), (valV (rs.map legRow) (Sum.inr z)).isSome = decide (z ∈ names rs)
  | [], z => rfl
  | q :: rs, z => by
    by_cases e : (legRow q).1 = Sum.inr z
    · rw [List.map_cons, valV_pos e]
      have ez : q.z = z := Sum.inr.inj e
      rw [decide_eq_true (show z ∈ names (q :: rs) by rw [← ez]; exact List.mem_cons_self)]
      rfl
    · rw [List.map_cons, valV_neg e, valV_in rs z]
      have ez : ¬ z = q.z := fun h => e (by rw [h]; rfl)
      have h2 : z ∈ names (q :: rs) ↔ z ∈ names rs := by
        show z ∈ q.z :: names rs ↔ _
        rw [List.mem_cons]
        exact ⟨fun h => h.resolve_left ez, .inr⟩
      exact Bool.eq_iff_iff.mpr (by rw [decide_eq_true_eq, decide_eq_true_eq]; exact h2.symm)
section
variable {P : Program} {w : World} {K : PySem.W.Frag} {mg : Str → Option Value} {base : Heap}
theorem scF1 : FnScope ["self"] ["self"] (defScope (sFr 12)) := ⟨rfl, rfl, rfl, by decide +kernel, rfl, by decide +kernel, by decide +kernel⟩
theorem scFIn : FnScope ["self", "x"] ["self", "x"] (defScope (sFr 9)) := ⟨rfl, rfl, rfl, by decide +kernel, rfl, by decide +kernel, by decide +kernel⟩
theorem ok_flen {f C : Addr} {fd : FuncData} (F : Fun K "__len__" "Frame.__len__" (sFr 12) f fd) (T : FmT K mg C) : FnOk P w K mg base CX0 1 f fd ["self"] (spFLen C) := by
  refine F.ok scF1 (fun vs H Q E h => ?_) (fun cdv A outer s H vs Q E hr h => ?_)
  · obtain ⟨a, ys, _, _, _, rfl, _⟩ := h
    rfl
  · obtain ⟨a, ys, TT, G, R, rfl, ⟨dx, D, ea, eD, _⟩, k⟩ := h
    refine ⟨_, pss_one (ps_ret (pe_callB call_lenD (by rfl) T.len PySem.boot_len (pa_cons (pe_fld (pv 0) rfl) pa_nil))), ?_⟩
    refine ⟨_, rfl, a, C, dx, _, _, rfl, ea, T.cl, T.nL, frF_legs _ _ _ _, D, _, rfl, eD, ?_⟩
    rw [List.length_map]
    exact k
theorem ok_fin {f C : Addr} {fd : FuncData} (F : Fun K "__contains__" "Frame.__contains__" (sFr 9) f fd) (T : FmT K mg C) : FnOk P w K mg base CX0 1 f fd ["self", "x"] (spFIn K C) := by
  refine F.ok scFIn (fun vs H Q E h => ?_) (fun cdv A outer s H vs Q E hr h => ?_)
  · obtain ⟨a, ys, _, _, _, x, rfl, _⟩ := h
    rfl
  · obtain ⟨a, ys, TT, G, R, x, rfl, ⟨dx, D, ea, eD, _⟩, k⟩ := h
    refine ⟨_, pss_one (ps_ret (pe_and (pe_callB call_isi (by rfl) T.isi (by decide +kernel) (pa_cons (pv 1) (pa_cons (pe_bltn (by rfl) T.str (by decide +kernel) (v := .ty "str") rfl) pa_nil)))
      (pe_one (pe_cmp (pc_din (hu_of hr) (pv 1) (pe_fld (pv 0) rfl)) (by rfl))))), ?_⟩
    rcases k with ⟨z, rfl, k⟩ | ⟨t, ty, e, k⟩
    · refine ⟨_, rfl, _, _, _, _, true, rfl, .ty _, .base (.str z), kit_ty (by decide +kernel), _, rfl, iteT ?_⟩
      refine ⟨_, rfl, _, rfl, a, C, dx, _, _, rfl, ea, T.cl, T.nL, frF_legs _ _ _ _, D, _, rfl, DGet.k (k := Sum.inr z) eD, ?_⟩
      rw [valV_in]
      exact k
    · exact ⟨_, rfl, _, _, _, _, false, rfl, .ty _, ty, kit_ty e, _, rfl, iteF k⟩
end
end Sj
/-! == of two dicts whose values are instances with an __eq__ of their own -/
namespace Own
open PySem PySem.Spec PyProof.Rows L2 Sup
/-- what == asks of the class at C, n levels below -/
structure EqN (P : Program) (w : World) (K : PySem.W.Frag) (mg : Str → Option Value) (base : Heap) (n : Nat) (C : Addr) (sp : Sp) : Prop where
  ex : ∃ (g : Addr) (fd : FuncData), PySem.W.findIn K (.ref C) "__eq__" = some (some (.ref g)) ∧ PySem.W.isFn K (.ref g) = true ∧ FnOk P w K mg base CX0 n g fd ["self", "other"] sp ∧ Binds K fd ["self", "other"] []
  ne : PySem.W.findIn K (.ref C) "__ne__" = some (some (.builtin "object.__ne__"))
  ob : PySem.W.mroIn K C (.type "object") = some true
theorem EqN.eqC {X : Cx} {n : Nat} {C : Addr} {sp : Sp} (T : EqN X.prog X.w X.K X.mg X.base n C sp) (hr : Room (n + 1) X.A) : EqC X C sp := by
  obtain ⟨⟨g, fd, h1, h2, h3, h4⟩, h5, h6⟩ := T
  exact ⟨⟨g, fd, n, h1, h2, h3, hr, h4⟩, h5, h6⟩
section
variable {X : Cx} {pins : List (Addr × Obj)} {σ : L2.St} {H : Hp} {s : Shared} {n : Nat}
/-- x == y under any around -/
theorem rc_ownN {op : CmpOp} (hop : op = .Eq ∨ op = .NotEq) {S : Addr → Prop} {spE : Addr → Sp} (T : ∀ C, S C → EqN X.prog X.w X.K X.mg X.base n C (spE C)) {A : Around} (hr : Room (n + 1) A) (I : Inv X pins σ H s) (e0 : Env0 X.prog X.w X.K X.mg X.base A X.stack s H)
    {x y : V} {v u : Value} {Q : VK} {E' : Value → Shared → Prop} (rx : RelV x v) (ry : RelV y u) (h : rOwnE X.K op S spE x y H Q) : wpAny (model X.prog X.w) A (richCompare op v u) (EP X pins σ Q) E' s := by
  obtain ⟨a, C, dx, fs, rfl, ha, hS, h⟩ := h
  obtain rfl : v = Value.ref a := rx
  obtain ⟨mA, O, _⟩ := ins_get I.hok ha
  obtain ⟨od, J, _⟩ := O.look
  have KX := I.kIn
  rcases h with ⟨t, ht, hn, q⟩ | ⟨b, D, dy, gs, rfl, hb, hSD, hne, hsub, q⟩
  · obtain ⟨⟨g, fd, h1, h2, GF, hbd⟩, h3, h4⟩ := T C hS
    obtain ⟨P, KP, hP, _⟩ := kit_of I ry ht
    refine rc_own_left hop hr.units0 KX J (KP.ty _ _ KX hP) hn (R := fun k s' => ∃ H', Inv X pins σ H' s' ∧ Q (.bl (ansOf op k)) H') (try_own hop KX J h1 h2 h3 h4 (Room.in1 hr).units0 fun A' hA => ?_) fun k s' ⟨H', I', qq⟩ => ⟨.bl (ansOf op k), H', I', rfl, qq⟩
    rcases hA with rfl | rfl
    · exact gives_own GF (hr.mono (Nat.le_succ _)) hbd e0 I ry q
    · exact gives_own GF (Room.in1 hr) hbd e0.in1 I ry q
  · obtain rfl : u = Value.ref b := ry
    obtain ⟨⟨g, fd, h1, h2, GF, hbd⟩, h3, h4⟩ := T D hSD
    obtain ⟨mB, O', _⟩ := ins_get I.hok hb
    obtain ⟨od', J', _⟩ := O'.look
    refine rc_own_right hop hr.units0 KX J J' hne hsub (R := fun k s' => ∃ H', Inv X pins σ H' s' ∧ Q (.bl (ansOf op k)) H') (try_own hop KX J' h1 h2 h3 h4 (Room.in1 hr).units0 fun A' hA => ?_) fun k s' ⟨H', I', qq⟩ => ⟨.bl (ansOf op k), H', I', rfl, qq⟩
    rcases hA with rfl | rfl
    · exact gives_own GF (hr.mono (Nat.le_succ _)) hbd e0 I (y := .ref a) rfl q
    · exact gives_own GF (Room.in1 hr) hbd e0.in1 I (y := .ref a) rfl q
end
section
variable {prog : Program} {w : World} {κ : Type} [DecidableEq κ] {knd : KeyKind prog w κ} {A : Around} {E : Value → Shared → Prop} {s : Shared}
/-- the pairs one after another; J holds all along, and the two dicts stand still -/
theorem pairs_own {nm : String} {a b : Addr} {ka kb : List (κ × Value)} {oa ob : Obj} {J : Shared → Prop} {ok : κ → Bool} {Q : Bool → Shared → Prop} (ha : (a == sysModules) = false) (hb : (b == sysModules) = false)
    (still : ∀ s', J s' → s'.heap.get? a = some oa ∧ s'.heap.get? b = some ob) (da : s.heap.DictOf knd a ka) (db : s.heap.DictOf knd b kb) (hJ : J s)
    (turn : ∀ k v, (k, v) ∈ ka → (valueAt kb k = none ∧ ok k = false) ∨ ∃ y, valueAt kb k = some y ∧ ∀ s', J s' → wpAny (model prog w) A (eqBool v y) (fun r s'' => r = ok k ∧ J s'') E s')
    (h : ∀ s', J s' → Q (ka.length == kb.length && ka.all fun p => ok p.1) s') : wpAny (model prog w) A (Builtin.Dict.samePairs nm a b) Q E s := by
  obtain ⟨oa', es, ep, hoa, _, hda, hka, hpa, _⟩ := da
  obtain ⟨ob', es', ep', hob, _, hdb, hkb, hpb, _⟩ := db
  obtain rfl : oa' = oa := Option.some.inj (hoa.symm.trans (still s hJ).1)
  obtain rfl : ob' = ob := Option.some.inj (hob.symm.trans (still s hJ).2)
  have hla : ka.length = es.size := by rw [← hpa.length, Array.length_toList]
  have hlb : kb.length = es'.size := by rw [← hpb.length, Array.length_toList]
  have hfind : ∀ k, findBy knd.is es' k = valueAt kb k := fun k => by
    rw [← hpb.find k]
    clear hlb hpb hkb hdb hob h turn still
    obtain ⟨l⟩ := es'
    simp [findBy]
  unfold Builtin.Dict.samePairs Builtin.Dict.showsAll
  rw [if_neg (by rw [ha]; exact Bool.false_ne_true), if_neg (by rw [hb]; exact Bool.false_ne_true)]
  refine wpAny_bind (wpAny_pure (wpAny_bind (wpAny_pure (wpAny_bind (wpAny_dictEntries hoa hda ?_)))))
  dsimp only
  refine wpAny_bind (wpAny_dictEntries hob hdb ?_)
  by_cases hsz : es.size = es'.size
  case neg =>
    have h' := h s hJ
    rw [if_pos (by simpa using hsz)]
    rw [show (ka.length == kb.length) = false by rw [hla, hlb]; simpa using hsz, Bool.false_and] at h'
    exact wpAny_bind (wpAny_rule (wpAny_pure h'))
  case pos =>
    have h' : ∀ s', J s' → Q (ka.all fun p => ok p.1) s' := fun s' hs => by
      have q := h s' hs
      rwa [show (ka.length == kb.length) = true by rw [hla, hlb]; simpa using hsz, Bool.true_and] at q
    rw [if_neg (by rw [hsz]; simp)]
    refine wpAny_bind (wpAny_dictEpoch hoa hda (wpAny_bind ?_))
    rw [Std.Legacy.Range.forIn_eq_forIn_range']
    simp only [Std.Legacy.Range.size, Nat.sub_zero, Nat.add_sub_cancel, Nat.div_one]
    refine wpAny_forIn_list _ (fun rest q s' => J s' ∧ q = (none, ()) ∧ ∃ i, rest = List.range' i (es.size - i) ∧ i ≤ es.size ∧ (ka.all fun p => ok p.1) = ((ka.drop i).all fun p => ok p.1)) _ ?_ ?_ _ _ ⟨hJ, rfl, 0, by simp, Nat.zero_le _, rfl⟩
    · rintro x rest q s1 ⟨hJ1, rfl, i, hr, hi, hall⟩
      obtain ⟨hoa1, hob1⟩ := still s1 hJ1
      have hlt : i < es.size := by
        rcases Nat.lt_or_ge i es.size with z | z
        · exact z
        · rw [Nat.sub_eq_zero_of_le z] at hr
          simp at hr
      obtain ⟨rfl, hrest⟩ : x = i ∧ rest = List.range' (i + 1) (es.size - (i + 1)) := by
        rw [show es.size - i = (es.size - (i + 1)) + 1 by omega, List.range'_succ] at hr
        injection hr with h1 h2
        exact ⟨h1, h2⟩
      refine wpAny_bind (wpAny_dictEntries hoa1 hda ?_)
      rw [Array.getElem?_eq_getElem hlt]
      have hlt' : x < ka.length := by omega
      obtain ⟨k, v, hkv⟩ : ∃ k v, ka[x] = (k, v) := ⟨_, _, rfl⟩
      have hmem : (k, v) ∈ ka := by rw [← hkv]; exact List.getElem_mem hlt'
      have hdrop : ka.drop x = (k, v) :: ka.drop (x + 1) := by rw [← hkv]; exact List.drop_eq_getElem_cons hlt'
      obtain ⟨hkey, hval⟩ := hpa.get? (i := x) (e := es[x]) (k := k) (v := v) (by rw [Array.getElem?_toList]; exact Array.getElem?_eq_getElem hlt) (by rw [List.getElem?_eq_getElem hlt', hkv])
      obtain ⟨k', hk', hh⟩ := hka es[x] (Array.getElem_mem hlt)
      rw [knd.inj _ _ _ hk' hkey] at hh
      rw [hdrop, List.all_cons] at hall
      dsimp only at hall
      show wpAny _ _ (holding [es[x].key, es[x].val] _ >>= _) _ _ _
      rw [hh]
      refine wpAny_bind (wpAny_holding (wpAny_bind (wpAny_dictFind_of hkey hob1 hdb hkb ?_)))
      cases hj : es'.findIdx? fun e => knd.is k e.key with
      | none =>
        have hn : valueAt kb k = none := by rw [← hfind k, findBy_of_findIdx?, hj]
        rcases turn k v hmem with ⟨_, er⟩ | ⟨y, hy, _⟩
        · rw [er, Bool.false_and] at hall
          have q := h' s1 hJ1
          rw [hall] at q
          refine wpAny_pure (show wpAny _ _ (if (!false) = true then _ else _) _ _ _ from ?_)
          rw [if_pos (by decide)]
          exact wpAny_pure (wpAny_pure q)
        · rw [hn] at hy
          cases hy
      | some j =>
        obtain ⟨hjlt, _, _⟩ := Array.findIdx?_eq_some_iff_getElem.mp hj
        have hv' : valueAt kb k = some es'[j].val := by
          rw [← hfind k, findBy_of_findIdx?, hj]
          simp [Array.getElem?_eq_getElem hjlt]
        refine wpAny_bind (wpAny_dictEntries hob1 hdb ?_)
        rw [Array.getElem?_eq_getElem hjlt]
        rcases turn k v hmem with ⟨hn, _⟩ | ⟨y, hy, he⟩
        · rw [hv'] at hn
          cases hn
        · rw [← Option.some.inj (hv'.symm.trans hy), ← hval] at he
          refine wpAny_holding (wpAny_mono (he s1 hJ1) (fun r s2 ⟨er, hJ2⟩ => ?_) fun _ _ z => z)
          cases r with
          | false =>
            rw [← er, Bool.false_and] at hall
            have q := h' s2 hJ2
            rw [hall] at q
            show wpAny _ _ (if (!false) = true then _ else _) _ _ _
            rw [if_pos (by decide)]
            exact wpAny_pure (wpAny_pure q)
          | true =>
            rw [← er, Bool.true_and] at hall
            show wpAny _ _ (if (!true) = true then _ else _) _ _ _
            rw [if_neg (by decide)]
            refine wpAny_bind (wpAny_dictEpoch (still s2 hJ2).1 hda ?_)
            rw [if_neg (by simp)]
            exact wpAny_pure ⟨hJ2, rfl, x + 1, hrest, hlt, hall⟩
    · rintro q s1 ⟨hJ1, rfl, i, hr, hi, hall⟩
      have hin : i = es.size := by
        rcases Nat.lt_or_ge i es.size with z | z
        · rw [show es.size - i = (es.size - (i + 1)) + 1 by omega, List.range'_succ] at hr
          cases hr
        · exact Nat.le_antisymm hi z
      rw [hin, ← hla, List.drop_length] at hall
      have q := h' s1 hJ1
      rw [hall] at q
      exact wpAny_pure q
theorem rc_dict_own {a b : Addr} {ka kb : List (κ × Value)} {oa ob : Obj} {J : Shared → Prop} {ok : κ → Bool} {Q : Value → Shared → Prop} (ha : (a == sysModules) = false) (hb : (b == sysModules) = false)
    (still : ∀ s', J s' → s'.heap.get? a = some oa ∧ s'.heap.get? b = some ob) (da : s.heap.DictOf knd a ka) (db : s.heap.DictOf knd b kb) (hJ : J s) (hu : A.units < cLine)
    (turn : ∀ k v, (k, v) ∈ ka → (valueAt kb k = none ∧ ok k = false) ∨ ∃ y, valueAt kb k = some y ∧ ∀ s', J s' → wpAny (model prog w) A.in1 (eqBool v y) (fun r s'' => r = ok k ∧ J s'') E s')
    (h : ∀ s', J s' → Q (.bool (ka.length == kb.length && ka.all fun p => ok p.1)) s') : wpAny (model prog w) A (richCompare .Eq (.ref a) (.ref b)) Q E s := by
  refine wpAny_richCompare_same_room (op := .Eq) da.typeIs db.typeIs PySem.F.slot_dict_eq (wpAny_call_entry PySem.F.slot_dict_eq da.typeIs PySem.F.entry_dict_eq (show wpAny _ _ (Builtin.Dict.dictSlotArgs "__eq__" ⟨[.ref a, .ref b], []⟩ >>= _) _ _ s from ?_) (PySem.F.args_dict_eq_2 _ _)) hu
  refine wpAny_bind ?_
  unfold Builtin.Dict.dictSlotArgs
  refine wpAny_bind (wpAny_notOrdered_dict da.typeIs (show wpAny _ _ (pure (Value.ref a, Value.ref b)) _ _ s from wpAny_pure ?_))
  refine wpAny_bind (wpAny_isInstance (T := "dict") db.typeIs PySem.F.sub_dict_dict ?_)
  simp only [Bool.not_true, Bool.false_eq_true, if_false]
  refine wpAny_bind (wpAny_pure (wpAny_bind (wpAny_pure (wpAny_bind (pairs_own ha hb still da db hJ turn fun s1 hJ1 => ?_)))))
  refine wpAny_pure ⟨_, rfl, (fun x => nomatch x), ?_⟩
  simpa using h s1 hJ1
end
theorem kv_mem : ∀ {ks : List (Key × V)} {vs : List (Key × Value)}, KV ks vs → ∀ {k : Key} {u : Value}, (k, u) ∈ vs → ∃ x, (k, x) ∈ ks ∧ RelV x u
  | [], [], .nil, k, u, hm => by cases hm
  | _ :: _, _ :: _, .cons h t, k, u, hm => by
    rcases List.mem_cons.mp hm with e | hm
    · refine ⟨_, List.mem_cons.mpr (.inl (Prod.ext_iff.mpr ⟨?_, rfl⟩)), ?_⟩
      · rw [h.1, ← e]
      · have := h.2
        rw [← e] at this
        exact this
    · obtain ⟨x, hx, r⟩ := kv_mem t hm
      exact ⟨x, List.mem_cons_of_mem _ hx, r⟩
theorem kv_all {ks : List (Key × V)} {vs : List (Key × Value)} (r : KV ks vs) (f : Key → Bool) : (vs.all fun p => f p.1) = ks.all fun p => f p.1 := by
  have e := KV.keys r
  rw [show (vs.all fun p => f p.1) = (vs.map (·.1)).all f by rw [List.all_map]; rfl, ← e, List.all_map]
  rfl
/-- what stands beside the two dicts -/
def Beside (a b : Addr) (H H' : Hp) : Prop := ∀ c o, H c = some o → c ≠ a → c ≠ b → H' c = some o
def rEqD (K : PySem.W.Frag) (S : Addr → Prop) (spE : Addr → Sp) : R2 := fun x y H Q => ∃ (a b : Addr) (ks ls : List (Key × V)) (ok : Key → Bool), x = .ref a ∧ y = .ref b ∧ H a = some (.dK ks) ∧ H b = some (.dK ls) ∧
  (∀ k v, (k, v) ∈ ks → (valV ls k = none ∧ ok k = false) ∨ ∃ p q, v = .ref p ∧ valV ls k = some (.ref q) ∧ ((p = q ∧ ok k = true) ∨ (p ≠ q ∧ ∀ H', Beside a b H H' → rOwnE K .Eq S spE (.ref p) (.ref q) H' fun z H'' => z = .bl (ok k) ∧ Same H' H''))) ∧
  ∀ H', Same H H' → Q (.bl (ks.length == ls.length && ks.all fun p => ok p.1)) H'
theorem op_eqOwnD {X : Cx} {n : Nat} {S : Addr → Prop} {spE : Addr → Sp} (T : ∀ C, S C → EqN X.prog X.w X.K X.mg X.base n C (spE C)) (hr : Room (n + 2) X.A) : OpR X (compareOp .Eq) (rEqD X.K S spE) := by
  intro pins s σ H x y v u Q I rx ry h
  obtain ⟨a, b, ks, ls, ok, rfl, rfl, hka, hkb, turn, fin⟩ := h
  obtain rfl : v = Value.ref a := rx
  obtain rfl : u = Value.ref b := ry
  show wpAny _ _ (richCompare .Eq (.ref a) (.ref b)) _ _ s
  -- both are locked
  obtain ⟨HL, IL, oa, ob, ha1, hb1, hbes, hun⟩ : ∃ HL, Inv X pins σ HL s ∧ ∃ oa ob, HL a = some (.frz oa (.dK ks)) ∧ HL b = some (.frz ob (.dK ls)) ∧ Beside a b H HL ∧ ∀ H' s', Inv X pins σ H' s' → Same HL H' → ∃ H3, Inv X pins σ H3 s' ∧ Same H H3 := by
    obtain ⟨oa, I1⟩ := I.lock hka trivial
    by_cases e : a = b
    · subst e
      obtain rfl : ks = ls := by
        rw [hka] at hkb
        injection hkb with z
        injection z
      refine ⟨_, I1, oa, oa, upd_same, upd_same, fun c o hc n1 _ => by rw [upd_ne n1]; exact hc, fun H' s' I' s1 => ⟨_, I'.unlock (s1 _ _ upd_same) (I.nofrz hka trivial), fun c o hc => ?_⟩⟩
      by_cases z : c = a
      · rw [z] at hc ⊢
        rw [upd_same, ← hc, hka]
      · rw [upd_ne z]
        exact s1 _ _ (by rw [upd_ne z]; exact hc)
    · have hb2 : (upd H a (.frz oa (.dK ks))) b = some (.dK ls) := by rw [upd_ne (Ne.symm e)]; exact hkb
      obtain ⟨ob, I2⟩ := I1.lock hb2 trivial
      refine ⟨_, I2, oa, ob, by rw [upd_ne e, upd_same], upd_same, fun c o hc n1 n2 => by rw [upd_ne n2, upd_ne n1]; exact hc, fun H' s' I' s1 => ?_⟩
      have hbq : H' b = some (.frz ob (.dK ls)) := s1 _ _ upd_same
      have haq : H' a = some (.frz oa (.dK ks)) := s1 _ _ (by rw [upd_ne e, upd_same])
      have I3 := I'.unlock hbq (I.nofrz hkb trivial)
      refine ⟨_, I3.unlock (by rw [upd_ne e]; exact haq) (I.nofrz hka trivial), fun c o hc => ?_⟩
      by_cases z : c = a
      · rw [z] at hc ⊢
        rw [upd_same, ← hc, hka]
      · rw [upd_ne z]
        by_cases z2 : c = b
        · rw [z2] at hc ⊢
          rw [upd_same, ← hc, hkb]
        · rw [upd_ne z2]
          exact s1 _ _ (by rw [upd_ne z2, upd_ne z]; exact hc)
  obtain ⟨sa, ga, xa, esa, epa, va, dta, sza, kva, hma⟩ := IL.frzK ha1
  obtain ⟨sb, gb, xb, esb, epb, vb, dtb, szb, kvb, hmb⟩ := IL.frzK hb1
  refine rc_dict_own (knd := mixKind X.prog X.w) (ok := ok) (J := fun s' => ∃ H', Inv X pins σ H' s' ∧ Same HL H') sa sb (fun s' ⟨H', I', s1⟩ => ⟨(I'.frzK (s1 _ _ ha1)).2.1, (I'.frzK (s1 _ _ hb1)).2.1⟩) hma.dictOf hmb.dictOf ⟨HL, IL, Same.refl HL⟩ hr.units0 (fun k u hm => ?_) fun s1 ⟨H1, I1, s01⟩ => ?_
  · obtain ⟨x, hx, rxu⟩ := kv_mem kva hm
    have rb := KV.val kvb k
    rcases turn k x hx with ⟨e1, e2⟩ | ⟨p, q, rfl, e1, e2⟩
    · rw [e1] at rb
      refine .inl ⟨?_, e2⟩
      cases hv : valueAt vb k with
      | none => rfl
      | some z => rw [hv] at rb; exact False.elim rb
    · rw [e1] at rb
      obtain rfl : u = Value.ref p := rxu
      cases hv : valueAt vb k with
      | none => rw [hv] at rb; exact False.elim rb
      | some z =>
        rw [hv] at rb
        obtain rfl : z = Value.ref q := rb
        refine .inr ⟨_, rfl, fun s1 ⟨H1, I1, s01⟩ => ?_⟩
        rcases e2 with ⟨rfl, e3⟩ | ⟨hpq, e3⟩
        · unfold eqBool
          refine wpAny_holding ?_
          rw [if_pos (by simp)]
          exact wpAny_bind (wpAny_rule (wpAny_pure ⟨e3.symm, H1, I1, s01⟩))
        · refine GQ.eqBool_refG hpq (wpAny_mono (rc_ownN (.inl rfl) T (Room.in1 hr) I1 I1.env0.in1 (x := .ref p) (y := .ref q) rfl rfl (e3 H1 fun c o hc n1 n2 => s01 _ _ (hbes c o hc n1 n2))) (fun v s2 ⟨z, H2, I2, rv, ez, s12⟩ => ?_) fun _ _ z => z)
          subst ez
          exact ⟨ok k, rv, rfl, H2, I2, s01.trans s12⟩
  · obtain ⟨H3, I3, s3⟩ := hun H1 s1 I1 s01
    refine ⟨_, H3, I3, ?_, fin H3 s3⟩
    have e1 : va.length = ks.length := (Paired.length kva).symm
    have e2 : vb.length = ls.length := (Paired.length kvb).symm
    rw [kv_all kva ok, e1, e2]
    rfl
end Own
/-! Defs of which more is known: that nothing is being shown around them (a repr of a list asks it). -/
namespace Grd
open PySem PySem.Spec PyProof.Rows L2
/-- as FnOk, called where nothing is being shown -/
structure FnG (P : Program) (w : World) (K : PySem.W.Frag) (mg : Str → Option Value) (base : Heap) (CX : CXT) (k : Nat) (f : Addr) (fd : FuncData) (ps : List Str) (sp : Sp) : Prop where
  len : ∀ vs H Q E, sp vs H Q E → vs.length = ps.length
  run : ∀ (A : Around) (outer : List Env) (s : Shared) (H : Hp) (args : Args) (us : List Value) (vs : List V) (Q : VK) (E : XK),
    A.guards = some [] → Room k A → Env0 P w K mg base A outer s H → BindsTo s fd args (ps.zip us) → Vals vs us → sp vs H Q E → codeAny (model P w) A (.call (.ref f) args) (CR CX outer P w H s Q E) s
section
variable {P : Program} {w : World} {K : PySem.W.Frag} {mg : Str → Option Value} {base : Heap} {CX : CXT} {j k : Nat} {f : Addr} {fd : FuncData} {ps : List Str} {sp sp' : Sp}
theorem FnG.of (F : FnOk P w K mg base CX k f fd ps sp) : FnG P w K mg base CX k f fd ps sp := ⟨F.len, fun A outer s H args us vs Q E _ => F.run A outer s H args us vs Q E⟩
theorem FnG.mono (F : FnG P w K mg base CX j f fd ps sp) (h : j ≤ k) : FnG P w K mg base CX k f fd ps sp := ⟨F.len, fun A outer s H args us vs Q E hg hr => F.run A outer s H args us vs Q E hg (hr.mono h)⟩
theorem FnG.imp (F : FnG P w K mg base CX k f fd ps sp) (h : ∀ vs H Q E, sp' vs H Q E → sp vs H Q E) : FnG P w K mg base CX k f fd ps sp' :=
  ⟨fun vs H Q E q => F.len vs H Q E (h _ _ _ _ q), fun A outer s H args us vs Q E hg hr he hb hv hs => F.run A outer s H args us vs Q E hg hr he hb hv (h _ _ _ _ hs)⟩
/-- by its body -/
theorem fun_g {x qual : Str} {st : Stmt} {N : List Str} (F : Fun K x qual st f fd) (S : FnScope N ps (defScope st)) (len : ∀ vs H Q E, sp vs H Q E → vs.length = ps.length)
    (hbody : ∀ (cdv : Value) (A : Around) (outer : List Env) (s : Shared) (H : Hp) (vs : List V) (Q : VK) (E : XK), A.guards = some [] → Room k (A.deeper (envOfC qual (defScope st) s.heap.objs.size f cdv)) → sp vs H Q E →
      ∃ t, PSs (cxOf CX0 P w K mg base N qual (defScope st) f cdv A outer s H E).nox (defBody st) t ∧ t { nx := fun _ H' => Q .non H', rt := Q } (start N vs) H) : FnG P w K mg base CX0 (k + 1) f fd ps sp := by
  obtain ⟨oc, od, kV, doc, pm, an, cdv, ct, osl, rfl, lk, hcd⟩ := F.ex
  refine ⟨len, fun A outer s H args us vs Q E hg hr e0 hb r hsp => ?_⟩
  refine LamX.run_ofS (CX := CX0) lk hcd S hr e0 hb r (len _ _ _ _ hsp) fun hr1 => ?_
  obtain ⟨t, ht, hq⟩ := hbody cdv A outer s H vs Q E hg hr1 hsp
  exact ⟨t, ht.nox, hq⟩
end
section
variable {X : Cx} {CX : CXT} {k : Nat} {f : Addr} {fd : FuncData} {ps : List Str} {sp : Sp} {E : XK} {x : Str} {p pos : Pos} {e : Expr} {es : List Expr} {t : TA}
theorem run_g {pins : List (Addr × Obj)} {σ : L2.St} {H : Hp} {s : Shared} {Q : VK} {us : List Value} {vs : List V} (F : FnG X.prog X.w X.K X.mg X.base CX k f fd ps sp) (hG : X.A.guards = some []) (hr : Room k X.A) (hb : Binds X.K fd ps []) (hx : Passes CX X E)
    (I : Inv X pins σ H s) (r : Vals vs us) (h : sp vs H Q E) : wpAny (model X.prog X.w) X.A (call (.ref f) us) (EP X pins σ Q) X.xe s := by
  have hl : (us ++ []).length = ps.length := by rw [List.append_nil, ← r.length]; exact F.len _ _ _ _ h
  have hB := hb s us I.kIn hl
  rw [List.append_nil] at hB
  refine wpAny_call (codeAny_mono (F.run X.A X.stack s H ⟨us, []⟩ us vs Q E hG hr I.env0 hB r h) fun res s' hq => ?_)
  match res, hq with
  | .error e, hq => exact hx pins σ H s e s' I hq
  | .ok (.ret u), hq => exact I.after hq
theorem pe_callG (F : FnG X.prog X.w X.K X.mg X.base CX k f fd ps sp) (hG : X.A.guards = some []) (hr : Room k X.A) (hg : Gl X x) (hm : X.mg x = some (.ref f)) (hk : PySem.W.keepIn X.K (.ref f) = true) (hb : Binds X.K fd ps []) (hx : Passes CX X E)
    (ha : PA X (e :: es) t) (hdb : (x == ("__debug__" : Str)) = false := by decide) (hs : starEach (e :: es) X.env = (false, eval e X.env) :: starEach es X.env := by rfl) (hp : (backTo pos (starEach es X.env)).any (·.1) = false := by rfl) :
    PE X (.Call (.Name x p) (e :: es) [] pos) (tCall sp [] E t) := by
  refine ⟨fun pins s σ H Q I h => wpAny_Call_Name_kw (ld_glob I hg hm ?_ hdb)⟩
  refine PySem.W.callWith_K (h₀ := X.base) I.ok.mod.kin hk (thn (ha.run pos pins s σ H _ I h) ?_) hs hp
  rintro us s1 ⟨vs, H1, I1, r, q⟩
  rw [List.append_nil] at q
  exact ⟨I1.kIn, run_g F hG hr hb hx I1 r q⟩
end
end Grd
/-! len(o), x in o, o[x] of an instance with such methods of its own; o in (None, "a", (..)) by its __eq__ -/
namespace Own
open PySem PySem.Spec PyProof.Rows L2 Sup Grd
section
variable {X : Cx} {CX : CXT} {pins : List (Addr × Obj)} {σ : L2.St} {H : Hp} {s : Shared} {k : Nat} {C f : Addr} {fd : FuncData} {ps : List Str} {sp : Sp} {E : XK}
/-- len(o) -/
def rLenO (C : Addr) (sp : Sp) : List V → Hp → VK → Prop := fun xs H Q => ∃ a dx fs, xs = [.ref a] ∧ H a = some (.ins C dx fs) ∧ sp [.ref a] H (fun z H' => ∃ n : Nat, z = .int n ∧ n < 2 ^ 62 ∧ Q (.int n) H') E0
/-- x in o, x not in o -/
def rInO (C : Addr) (neg : Bool) (sp : Sp) : R2 := fun x y H Q => ∃ a dx fs, y = .ref a ∧ H a = some (.ins C dx fs) ∧ sp [.ref a, x] H (fun z H' => ∃ b : Bool, z = .bl b ∧ Q (.bl (if neg then !b else b)) H') E0
/-- o[x], which may raise -/
def tItO (C : Addr) (sp : Sp) (E : XK) (ta tb : TE) : TE := fun σ H Q => ta σ H fun y H1 => tb σ H1 fun x H2 => ∃ a dx fs, y = .ref a ∧ H2 a = some (.ins C dx fs) ∧ sp [.ref a, x] H2 Q E
end
/-! ### o in (None, "a", (..)) -/
/-- None or a tuple -/
inductive OddL (K : PySem.W.Frag) (H : Hp) : V → Prop
  | non : OddL K H .non
  | tup {t : Addr} {xs : List V} : SqT K H t xs → OddL K H (.ref t)
theorem OddL.same {K : PySem.W.Frag} {H H' : Hp} {x : V} (h : OddL K H x) (s : Same H H') : OddL K H' x := by
  cases h with
  | non => exact .non
  | tup q => exact .tup (SqT.ext q s)
end Own
/-! e.f, a property, of an instance of one of some classes -/
namespace Own
open PySem PySem.Spec PyProof.Rows L2 Sup Grd
structure PropN (P : Program) (w : World) (K : PySem.W.Frag) (mg : Str → Option Value) (base : Heap) (n : Nat) (C : Addr) (f : Str) (sp : Sp) : Prop where
  cl : Cls K C
  ex : ∃ (p g : Addr) (fd : FuncData), PropOf K C f p g ∧ FnOk P w K mg base CX0 n g fd ["self"] sp ∧ Binds K fd ["self"] []
def tPropS (S : Addr → Prop) (spP : Addr → Sp) (ta : TE) : TE := fun σ H Q => ta σ H fun x H1 => ∃ a C dx fs, x = .ref a ∧ H1 a = some (.ins C dx fs) ∧ S C ∧ spP C [.ref a] H1 Q E0
theorem pe_propS {X : Cx} {n : Nat} {S : Addr → Prop} {spP : Addr → Sp} {f : Str} {e : Expr} {ta : TE} {pos : Pos} (he : PE X e ta) (T : ∀ C, S C → PropN X.prog X.w X.K X.mg X.base n C f (spP C)) (hr : Room (n + 1) X.A)
    (hab : attributeBase e f X.env (eval e X.env) = eval e X.env := by rfl) : PE X (.Attribute e f pos) (tPropS S spP ta) := by
  refine ⟨fun pins s σ H Q I h => ?_⟩
  refine attr_of hab (thn (he.run pins s σ H _ I h) fun u s1 ⟨x, H1, I1, rx, a, C, dx, fs, ex, ea, hS, q⟩ => ?_)
  subst ex
  obtain rfl : u = Value.ref a := rx
  obtain ⟨cl, p, g, fd, hp, F, hb⟩ := T C hS
  exact getprop_ok I1 ea cl hp F hr hb .nil pass0 q
end Own
/-! tuple(d), tuple(d.values()) of a dict whose keys are ints or texts -/
namespace TupD
open PySem PySem.Spec PyProof.Rows L2
section
variable {prog : Program} {w : World} {A : Around} {E : Value → Shared → Prop} {s : Shared} {T : String} {r d : Addr} {n : Nat} {P : Nat → Value → Prop} {OK : Heap → Prop}
/-- what the new tuple is wanted for -/
abbrev Wants (Q : Value → Shared → Prop) (s : Shared) (P : Nat → Value → Prop) (n : Nat) : Prop := ∀ (h' : Heap) (tk : Nat) (acc : Array Value), (∀ b o, s.heap.get? b = some o → h'.get? b = some o) → ItemsOf P acc n → Q (.ref h'.objs.size) { s with heap := h'.push { cls := .type "tuple", data := .seq acc }, toks := tk }
theorem new_src {Q₁ : Value → Shared → Prop} (hT : T = "dict" ∨ T = "dict_values") (K : PySem.W.KdlSrc prog w T r d n P OK) (hh : A.handled = none) (hok : OK s.heap) (hn : n ≤ sizeLine) (h : Wants Q₁ s P n) :
    codeAny (model prog w) A (.call (.builtin "tuple.__new__") ⟨[.type "tuple", .ref r], []⟩) (wants Q₁ E) s := by
  refine codeAny_of_tree (show wpAny _ A.in1 (do checkBuiltinCall "tuple.__new__" ⟨[.type "tuple", .ref r], []⟩; again (.builtin "tuple.__new__" ⟨[.type "tuple", .ref r], []⟩)) _ _ s from ?_)
  refine wpAny_bind (wpAny_of_eq (F.newCall_tuple_1 _) (wpAny_pure ⟨plainId_quiet F.plain_tuple_new _, codeAny_builtin F.entry_tuple_new ?_⟩))
  rw [Around.under_plainId F.plain_tuple_new _]
  have k1 := sub_tuple_self
  have k2 := init_tuple_lookup
  have k3 := madeHere_tuple
  have hTI : s.TypeIs (.ref r) T := K.type s hok
  have hh1 : A.in1.handled = none := hh
  have fin : ∀ h' tk acc, (∀ b o, s.heap.get? b = some o → h'.get? b = some o) → ItemsOf P acc n → wpAny (model prog w) A.in1 (Builtin.Tuple.tupleExact acc.toList.toArray >>= fun v => ret v) (fun fin s' => match fin with | .done f => wants Q₁ E (.ok f) s' | .again c' => c'.quiet = true ∧ codeAny (model prog w) A c' (wants Q₁ E) s') (fun e s' => wants Q₁ E (.error e) s') { s with heap := h', toks := tk } := by
    intro h' tk acc hk hacc
    have e : acc.toList.toArray = acc := by simp
    unfold Builtin.Tuple.tupleExact
    refine wpAny_bind (wpAny_newObj_type ?_ (by rw [e]; show acc.size ≤ sizeLine; rw [hacc.1]; exact hn))
    rw [e]
    exact wpAny_pure (h h' tk acc hk hacc)
  rcases hT with rfl | rfl
  · wp_walk using wpAny_typeOf hTI, PySem.W.kdu_collect (A := A.in1) K hh1 hok hn
    exact fin
  · wp_walk using wpAny_typeOf hTI, PySem.W.kdu_collect (A := A.in1) K hh1 hok hn
    exact fin
theorem call_src {Q : Value → Shared → Prop} (hT : T = "dict" ∨ T = "dict_values") (K : PySem.W.KdlSrc prog w T r d n P OK) (hh : A.handled = none) (hok : OK s.heap) (hn : n ≤ sizeLine) (hQ : Wants Q s P n) :
    wpAny (model prog w) A (call (.type "tuple") [.ref r]) Q E s := by
  refine callType_codes (Q₁ := fun v s₁ => s₁.TypeIs v "tuple" ∧ Q v s₁) F.called_tuple (F.typeCall_tuple_1 _) F.entry_object_init
    (new_src (A := A.in1) hT K hh hok hn fun h' tk acc hk hacc => ⟨⟨_, Heap.get?_push_size _ rfl, rfl⟩, hQ h' tk acc hk hacc⟩) fun v s₁ q => ?_
  exact ⟨q.1, F.args_object_init_2 v _, object_init_meets F.called_tuple.init.lookup F.called_tuple.made (by decide) prog w A.in1 _ s₁ ⟨q.1, rfl, q.2⟩⟩
end
/-- tuple(d) -/
def rTupD : List V → Hp → VK → Prop := fun xs H Q => ∃ p kvs, xs = [.ref p] ∧ H p = some (.dK kvs) ∧ ∀ q, H q = none → Q (.ref q) (upd H q (.tup (kvs.map fun kv => kV kv.1)))
theorem call_tup_dK {X : Cx} (hc : X.calm = true) : CallR X (.type "tuple") rTupD := by
  intro pins s σ H xs us Q I r h
  obtain ⟨p, kvs, rfl, hk, q⟩ := h
  obtain ⟨u, rfl, rx⟩ := vals1 r
  obtain rfl : u = Value.ref p := rx
  obtain ⟨z, lo, vs, rk, hd⟩ := (show ObjOk X.prog X.w H s.heap p (.dK kvs) from I.hok p _ hk)
  obtain ⟨ep, hat⟩ := hd.dictAt
  have hl : kvs.length = vs.length := Paired.length rk
  refine call_src (.inl rfl) (PySem.W.kdl_dict (knd := mixKind X.prog X.w) (kvs := vs) (ep := ep) lo) (I.ok.hd hc) hat (by rw [← hl]; exact z) fun h' tk acc hkeep hacc => ?_
  have I2 : Inv X pins σ H { s with heap := h', toks := tk } := I.kept hkeep
  refine ⟨.ref h'.objs.size, upd H h'.objs.size (.tup (kvs.map fun kv => kV kv.1)), I2.laid (t' := tk) (fun c o e => Heap.get?_push_of_some _ e) (Nat.le_refl _) (show ObjOk X.prog X.w _ _ _ (.tup (kvs.map fun kv => kV kv.1)) from ⟨?_, acc.toList, ?_, ?_⟩), rfl, q _ (I2.hok.fresh (Nat.le_refl _))⟩
  · rw [List.length_map]; exact z
  · have el : acc.toList.length = acc.size := by simp
    refine vals_of_at (by rw [List.length_map, el, hacc.1, hl]) fun j x u h1 h2 => ?_
    obtain ⟨k, y, hky, hi⟩ := hacc.2 j u (by rw [← Array.getElem?_toList]; exact h2)
    have e1 : (kvs.map (·.1))[j]? = some k := by
      rw [KV.keys rk, List.getElem?_map, hky]; rfl
    have e2 : (kvs.map fun kv => kV kv.1)[j]? = some (kV k) := by
      rw [show (kvs.map fun kv => kV kv.1) = (kvs.map (·.1)).map kV by rw [List.map_map]; rfl, List.getElem?_map, e1]; rfl
    rw [e2] at h1
    cases h1
    exact keyIs_rel hi
  · rw [Array.toArray_toList]; exact IsTup.new _ _
end TupD
/-! sorted(t) of a tuple of texts (fewer than 64) -/
namespace SortT
open PySem PySem.Spec PyProof.Rows L2
def rSortT (K : PySem.W.Frag) : List V → Hp → VK → Prop := fun xs H Q => ∃ (a : Addr) (zs : List Str), xs = [.ref a] ∧ SqT K H a (zs.map V.str) ∧ zs.length < 64 ∧ ∀ ys p, ys.Perm zs → sortedS ys = true → H p = none → Q (.ref p) (upd H p (.lst (ys.map V.str)))
theorem call_sortT {X : Cx} : CallR X (.builtin "sorted") (rSortT X.K) := by
  intro pins s σ H xs us Q I r h
  obtain ⟨a, zs, rfl, hs, h64, q⟩ := h
  obtain ⟨u, rfl, rx⟩ := vals1 r
  obtain rfl : u = Value.ref a := rx
  obtain ⟨its, rv, pl, hz⟩ := I.tuple hs
  have hS : StrsAre its zs := rv.strs
  have hal : its.length = zs.length := by
    have := rv.length
    rw [List.length_map] at this
    exact this.symm
  obtain ⟨⟨cls, dd, data, sl⟩, ho, hc, n, hd⟩ := id pl
  simp only at hc hd
  subst hc hd
  refine Calls.call_function_entry kind_sorted plain_sorted entry_sorted (args_sorted1 _) ?_
  unfold Builtin.«sorted»
  refine wpAny_bind (m := checkCount "sorted" 1 1 _) (wpAny_pure (wpAny_bind (wpAny_collect_seq (A := X.A.in1) a (.inr rfl) ho rfl rfl (fun h' hk => ?_) (by rw [List.size_toArray]; rw [← rv.length]; exact hz))))
  rw [List.toList_toArray]
  have I1 : Inv X pins σ H { s with heap := h' } := I.kept (t' := s.toks) hk
  refine wpAny_bind (wpAny_newList ?_ (by rw [hal, sizeLine_eq]; omega))
  have hoL : (h'.push (seqObj "list" its.toArray 0)).get? h'.objs.size = some (seqObj "list" its.toArray 0) := Heap.get?_push_size _ rfl
  show wpAny _ _ _ _ _ { s with heap := h'.push (seqObj "list" its.toArray 0) }
  refine wpAny_bind (wpAny_holding (wpAny_call_entry slot_list_sort ⟨_, hoL, rfl⟩ entry_list_sort
    (list_sort_treeK strKind_oneLt (s := { s with heap := h'.push (seqObj "list" its.toArray 0) }) hoL hS.keysOf (fun v₁ v₂ rest e => keyKind_strs (by rw [← e]; exact hS)) (by rw [hal]; exact h64) fun st' hp hs => ⟨_, rfl, ?_⟩) (args_list_sort _)))
  obtain ⟨ys, g1, g2, g3⟩ := sorted_out_str hS hp hs
  obtain ⟨e', he'⟩ := sortedHeap_at (vs := its) (out := (arrOf st').map (·.2)) hoL
  have hlen : (ys.map V.str).length ≤ sizeLine := by
    rw [List.length_map, g2.length_eq]
    exact Nat.le_trans (Nat.le_of_lt h64) (by decide)
  refine wpAny_pure ⟨_, rfl, .ref h'.objs.size, upd H h'.objs.size (.lst (ys.map V.str)), I1.laid (t' := s.toks) (fun b u e => ?_) (Nat.le_refl _) (show ObjOk X.prog X.w _ _ _ (.lst (ys.map V.str)) from ⟨hlen, ((arrOf st').map (·.2)).toList, e', vals_of_strs g1, by rw [Array.toArray_toList]; exact he'⟩), rfl, q ys _ g2 g3 (I1.hok.fresh (Nat.le_refl _))⟩
  have hb : b < h'.objs.size := Heap.lt_size e
  rw [sortedHeap_old (Nat.ne_of_lt hb) (by rw [size_push']; exact Nat.lt_succ_of_lt hb)]
  exact Heap.get?_push_of_some _ e
end SortT
namespace Sj
open PySem L2 Sup StK Own
open NdefX (NF NScope ncx envF startF nscope_by)
open C8 (pss_cut tCut)
/-! Frame's properties (k03, k05, ..) -/
theorem same_at {H : Hp} {a : Addr} {o : HO} (h : H a = none) : Same H (upd H a o) := fun b u e => by rw [upd_ne (ne_of_none e h)]; exact e
/-- a frame as data -/
structure FrD where
  ys : List LegR
  t : Int
  g : Bool
  r : Bool
structure FrIs (ks : Kinds) (CF : Addr) (H : Hp) (a : Addr) (d : FrD) : Prop where
  at_ : FrAt H a CF d.ys (.int d.t) (.bl d.g) (.bl d.r)
  ok : ∀ r ∈ d.ys, r.ok ks H
  nd : (names d.ys).Nodup
  le : d.ys.length ≤ 40
  so : PyProof.Rows.sortedS (names d.ys) = true
theorem FrIs.same {ks : Kinds} {CF : Addr} {H H' : Hp} {a : Addr} {d : FrD} (h : FrIs ks CF H a d) (s : Same H H') : FrIs ks CF H' a d := ⟨h.at_.same s, fun r hr => (h.ok r hr).same s, h.nd, h.le, h.so⟩
def strv (zs : List Str) : List V := zs.map V.str
/-- the names of the legs of the kind b -/
def kindZ (ks : Kinds) (b : Bool) (ys : List LegR) : List Str := names (ys.filter fun r => decide (r.C = ks.drv) == b)
def railsZ (g r : Bool) : List Str := (if g then [("ground" : Str)] else []) ++ if r then [("power" : Str)] else []
/-- a getter that makes a new tuple of texts -/
def spTup (ks : Kinds) (CF : Addr) (f : FrD → List Str) : Sp := fun vs H Q _ => ∃ a d, vs = [.ref a] ∧ FrIs ks CF H a d ∧ ∀ p H', H p = none → H' p = some (.tup (strv (f d))) → Same H H' → Q (.ref p) H'
structure FpT (P : Program) (w : World) (K : PySem.W.Frag) (mg : Str → Option Value) (base : Heap) (ks : Kinds) (CF : Addr) : Prop where
  cl : Cls K CF
  nL : NoAttr K CF "_legs"
  nG : NoAttr K CF "ground"
  nP : NoAttr K CF "power"
  tuple : mg "tuple" = none
  sorted : mg "sorted" = none
  dv : ∀ C, (C = ks.drv ∨ C = ks.lis) → PropN P w K mg base 1 C "drives" (spDr C (decide (C = ks.drv)))
def rTupQ (K : PySem.W.Frag) : List V → Hp → VK → Prop := fun xs H Q => ∃ p ys, xs = [.ref p] ∧ ((SqL K H p ys ∧ ∀ l, H l = none → Q (.ref l) (upd H l (.tup ys))) ∨ (SqT K H p ys ∧ Q (.ref p) H))
section
variable {P : Program} {w : World} {K : PySem.W.Frag} {mg : Str → Option Value} {base : Heap}
theorem scFp (i : Nat) (h : defScope (sFr i) = defScope (sFr 3)) : FnScope ["self"] ["self"] (defScope (sFr i)) := by
  rw [h]
  exact ⟨rfl, rfl, rfl, by decide +kernel, rfl, by decide +kernel, by decide +kernel⟩
theorem ok_fnames {f CF : Addr} {fd : FuncData} {ks : Kinds} (F : Fun K "names" "Frame.names" (sFr 4) f fd) (T : FpT P w K mg base ks CF) : FnOk P w K mg base CX0 1 f fd ["self"] (spTup ks CF fun d => names d.ys) := by
  refine F.ok (scFp 4 rfl) (fun vs H Q E h => ?_) (fun cdv A outer s H vs Q E hr h => ?_)
  · obtain ⟨a, d, rfl, _⟩ := h
    rfl
  · obtain ⟨a, d, rfl, hF, k⟩ := h
    obtain ⟨dx, D, ea, eD, _⟩ := hF.at_
    refine ⟨_, pss_one (ps_ret (pe_callTy (T := "tuple") (TupD.call_tup_dK rfl) (by rfl) T.tuple (by decide +kernel) (pa_cons (pe_fld (pv 0) rfl) pa_nil))), ?_⟩
    refine ⟨_, rfl, a, CF, dx, _, _, rfl, ea, T.cl, T.nL, frF_legs _ _ _ _, D, _, rfl, eD, fun q hq => k q _ hq ?_ (same_at hq)⟩
    rw [upd_same, List.map_map]
    show _ = some (HO.tup ((d.ys.map _).map _))
    rw [List.map_map]
    rfl
theorem kindZ_take {ks : Kinds} {b : Bool} {ys : List LegR} {i : Nat} (hi : i < ys.length) : kindZ ks b (ys.take (i + 1)) = kindZ ks b (ys.take i) ++ if (decide (ys[i].C = ks.drv) == b) = true then [ys[i].z] else [] := by
  unfold kindZ names
  rw [List.take_add_one, List.getElem?_eq_getElem hi, List.filter_append, List.map_append]
  congr 1
  show List.map _ (List.filter _ [ys[i]]) = _
  rw [List.filter_cons]
  by_cases e : (decide (ys[i].C = ks.drv) == b) = true
  · rw [if_pos e, if_pos e]
    rfl
  · rw [if_neg e, if_neg e]
    rfl
def tePl (ks : Kinds) : TE := tPropS (fun C => C = ks.drv ∨ C = ks.lis) (fun C => spDr C (decide (C = ks.drv))) (tVar 2)
def ttPl (ks : Kinds) (b : Bool) : TT := if b then tB (tePl ks) else tNot (tB (tePl ks))
theorem tePl_rd {ks : Kinds} {σ : L2.St} {H : Hp} {r : LegR} {Q : VK} (hv : σ[2]? = some (some (.ref r.a))) (hr : r.ok ks H) (k : Q (.bl (decide (r.C = ks.drv))) H) : tePl ks σ H Q := by
  obtain ⟨hc, dx, ea⟩ := id hr
  exact ⟨_, hv, r.a, r.C, dx, _, rfl, ea, hc, r.a, r.z, rfl, ⟨dx, ea⟩, k⟩
theorem ttPl_rd {ks : Kinds} {b : Bool} {σ : L2.St} {H : Hp} {r : LegR} {Q : Bool → Hp → Prop} (hv : σ[2]? = some (some (.ref r.a))) (hr : r.ok ks H) (k : Q (decide (r.C = ks.drv) == b) H) : ttPl ks b σ H Q := by
  unfold ttPl
  cases b with
  | true =>
    rw [if_pos rfl]
    refine tePl_rd hv hr ⟨_, rfl, ?_⟩
    rw [beq_true] at k
    exact k
  | false =>
    rw [if_neg Bool.false_ne_true]
    refine tePl_rd hv hr ⟨_, rfl, ?_⟩
    rw [beq_false] at k
    exact k
/-- [name for name, leg in self._legs.items() if .. leg.drives], the dict locked at HL -/
theorem kind_walk {ks : Kinds} {b : Bool} {ys : List LegR} {D Dn : Addr} {od : Obj} {HL : Hp} {σ : L2.St} {Qd : Hp → Prop} (hσ : σ.length = 3) (hD : HL D = some (.frz od (.dK (ys.map legRow)))) (hn : HL Dn = none) (hok : ∀ r ∈ ys, r.ok ks HL) (hl : ys.length ≤ 40)
    (hd : ∀ H', Same HL H' → H' Dn = some (.lst (strv (kindZ ks b ys))) → Qd H') :
    ∃ W : Nat → Nat → Hp → Prop, (∃ m, W 0 m (upd HL Dn (.lst []))) ∧ ∀ i m H, W i m H →
      ((Iti D od (ys.map legRow)).stop i H ∧ Qd H) ∨ ((Iti D od (ys.map legRow)).go i H ∧ ∃ Nx : Hp → Prop, (∀ H', Nx H' → ∃ m', m' < m ∧ W (i + 1) m' H') ∧ ∀ x H', (Iti D od (ys.map legRow)).yld i H x H' → gTup K 2 (gCons (gName 1) (gCons (gName 2) gNil)) x (wipe σ [1, 2]) H' fun σ2 H2 => wipe σ2 [1, 2] = wipe σ [1, 2] ∧ ttPl ks b σ2 H2 fun c H3 =>
        if c = true then tVar 1 σ2 H3 fun y H4 => ∃ acc, H4 Dn = some (.lst acc) ∧ acc.length < sizeLine ∧ Nx (upd H4 Dn (.lst (acc ++ [y]))) else Nx H3) := by
  match σ, hσ with
  | [u0, u1, u2], _ =>
  have hlm : (ys.map legRow).length = ys.length := List.length_map _
  refine lc_it (walk_items (d := D) (o := od) (kvs := ys.map legRow)) (fun i H' => Same HL H' ∧ H' Dn = some (.lst (strv (kindZ ks b (ys.take i))))) ⟨same_at hn, upd_same⟩ (fun i H' _ p => p.1 _ _ hD) ?_ ?_
  · rintro i x H1 H2 hi ⟨s1, d1⟩ ⟨Tp, kx, vx, rfl, hT, rfl, hk, hv⟩
    rw [hlm] at hi
    have e1 : (ys.map legRow)[i]? = some (legRow ys[i]) := by rw [List.getElem?_map, List.getElem?_eq_getElem hi]; rfl
    dsimp only at hk hv
    rw [e1] at hk hv
    obtain rfl : V.str ys[i].z = kx := Option.some.inj hk
    obtain rfl : V.ref ys[i].a = vx := Option.some.inj hv
    have s2 : Same HL (upd H1 Tp (.tup [.str ys[i].z, .ref ys[i].a])) := s1.trans (same_at hT)
    have d2 : upd H1 Tp (.tup [.str ys[i].z, .ref ys[i].a]) Dn = some (.lst (strv (kindZ ks b (ys.take i)))) := by rw [upd_ne (ne_of_none d1 hT)]; exact d1
    refine ⟨Tp, _, rfl, SqT.of upd_same, rfl, _, _, rfl, _, _, rfl, rfl, rfl, ?_⟩
    refine ttPl_rd rfl ((hok _ (List.getElem_mem hi)).same s2) ?_
    have et := kindZ_take (ks := ks) (b := b) hi
    by_cases e : (decide (ys[i].C = ks.drv) == b) = true
    · rw [if_pos e] at et ⊢
      refine ⟨_, rfl, _, d2, ?_, fun c o hc => ?_, ?_⟩
      · have q : (kindZ ks b (ys.take i)).length ≤ 40 := by
          unfold kindZ names
          rw [List.length_map]
          exact Nat.le_trans (List.length_filter_le _ _) (by rw [List.length_take]; omega)
        show (List.map V.str _).length < _
        rw [List.length_map]
        exact Nat.lt_of_le_of_lt q (by decide)
      · rw [upd_ne (ne_of_none hc hn)]
        exact s2 _ _ hc
      · rw [upd_same, et]
        show _ = some (HO.lst (List.map V.str _))
        rw [List.map_append]
        rfl
    · rw [if_neg e] at et ⊢
      rw [List.append_nil] at et
      exact ⟨s2, by rw [et]; exact d2⟩
  · rintro H1 ⟨s1, d1⟩
    rw [hlm, List.take_length] at d1
    exact hd H1 s1 d1
/-- behind the lock -/
theorem same_unlock {H H1 : Hp} {D : Addr} {od : Obj} {u : HO} (hD : H D = some u) (s : Same (upd H D (.frz od u)) H1) : Same H (upd H1 D u) := fun b o e => by
  by_cases z : b = D
  · rw [z] at e ⊢
    rw [upd_same, ← e, hD]
  · rw [upd_ne z]
    exact s _ _ (by rw [upd_ne z]; exact e)
theorem scFk (i : Nat) (h : defScope (sFr i) = defScope (sFr 5)) : FnScope ["self", "name", "leg"] ["self"] (defScope (sFr i)) := by
  rw [h]
  exact ⟨rfl, rfl, rfl, by decide +kernel, rfl, by decide +kernel, by decide +kernel⟩
theorem kind_rd {ks : Kinds} {CF : Addr} {b : Bool} {a : Addr} {d : FrD} {H : Hp} {Q : VK} (cl : Cls K CF) (nL : NoAttr K CF "_legs") (hF : FrIs ks CF H a d) (k : ∀ p H', H p = none → H' p = some (.tup (strv (kindZ ks b d.ys))) → Same H H' → Q (.ref p) H') :
    tLockE (tCB (rTupQ K) (tCons (tLc (iItems (tFld K (tVar 0) "_legs")) (gTup K 2 (gCons (gName 1) (gCons (gName 2) gNil))) (ttPl ks b) (tVar 1) [1, 2]) tNil)) (start ["self", "name", "leg"] [.ref a]) H Q := by
  obtain ⟨dx, D, ea, eD, hne⟩ := hF.at_
  refine ⟨D, _, eD, trivial, fun od => ?_⟩
  obtain ⟨HL, eL⟩ : ∃ HL, HL = upd H D (.frz od (.dK (d.ys.map legRow))) := ⟨_, rfl⟩
  rw [← eL]
  have hDL : HL D = some (.frz od (.dK (d.ys.map legRow))) := by rw [eL, upd_same]
  have haL : HL a = some (.ins CF dx (frF D (.int d.t) (.bl d.g) (.bl d.r))) := by rw [eL, upd_ne (Ne.symm hne)]; exact ea
  have hokL : ∀ r ∈ d.ys, r.ok ks HL := fun r hr => by
    obtain ⟨h1, dy, e⟩ := hF.ok r hr
    exact ⟨h1, dy, by rw [eL, upd_ne (ne_of e eD (by intro z; cases z))]; exact e⟩
  refine ⟨_, rfl, a, CF, dx, _, _, rfl, haL, cl, nL, frF_legs _ _ _ _, D, od, _, rfl, hDL, fun Dn hDn => ?_⟩
  refine kind_walk rfl hDL hDn hokL hF.le fun H1 s1 d1 => ⟨Dn, _, rfl, .inl ⟨SqL.of d1, fun p hp => ⟨?_, ?_⟩⟩⟩
  · rw [upd_ne (ne_of_none (s1 _ _ hDL) hp)]
    exact s1 _ _ hDL
  · have hpD : p ≠ D := fun z => by rw [z, s1 _ _ hDL] at hp; cases hp
    refine k p _ ?_ (by rw [upd_ne hpD, upd_same]) (same_unlock eD (by rw [← eL]; exact s1.trans (same_at hp)))
    cases q : H p with
    | none => rfl
    | some o =>
      have e1 : HL p = some o := by rw [eL, upd_ne hpD]; exact q
      rw [s1 _ _ e1] at hp
      cases hp
theorem ok_fdrv {f CF : Addr} {fd : FuncData} {ks : Kinds} (F : Fun K "drivers" "Frame.drivers" (sFr 5) f fd) (T : FpT P w K mg base ks CF) : FnOk P w K mg base CX0 3 f fd ["self"] (spTup ks CF fun d => kindZ ks true d.ys) := by
  refine F.ok (scFk 5 rfl) (fun vs H Q E h => ?_) (fun cdv A outer s H vs Q E hr h => ?_)
  · obtain ⟨a, d, rfl, _⟩ := h
    rfl
  · obtain ⟨a, d, rfl, hF, k⟩ := h
    refine ⟨_, pss_one (ps_ret (pe_lock (pe_callTy (T := "tuple") call_tuple_of (by rfl) T.tuple (by decide +kernel) (pa_cons (pe_lc (te := tVar 1) (tt := ttPl ks true) (own := [("name", 1), ("leg", 2)]) (g := gTup K 2 (gCons (gName 1) (gCons (gName 2) gNil))) rfl (scFk 5 rfl).nd (pi_items (pe_fld (pv 0) rfl))
      (blkOk_by (N := ["self", "name", "leg"]) (sc := defScope (sFr 5)) (by decide +kernel)) (fun _ _ _ _ _ => pg_tup rfl (pgs_cons (pg_name (i := 1) (scFk 5 rfl).nd rfl (Or.inl rfl)) (pgs_cons (pg_name (i := 2) (scFk 5 rfl).nd rfl (Or.inl rfl)) pgs_nil)))
      (fun _ _ _ _ _ => pts_one (pt_val (pe_propS (pv 2) T.dv hr))) (fun _ _ _ _ _ => pv 1)) pa_nil)))), ?_⟩
    exact kind_rd T.cl T.nL hF k
end
end Sj
/-! Own exceptions over any built-in base, made and kept as values. -/
namespace Exg
open PySem PySem.Spec PyProof.Rows L2 Sup
open NdefX (NF NScope ncx envF startF CellsAt inv_startN)
/-- a built-in base -/
structure BaseE (B newId initId : String) (tl : List Value) : Prop where
  F : ExcBaseFacts B newId initId tl
  SF : StoreFacts B tl "object.__setattr__" "object"
  KF : PySem.W.KxsFacts B initId
abbrev tlL : List Value := [.type "LookupError", .type "Exception", .type "BaseException", .type "object"]
theorem bL : BaseE "LookupError" "LookupError.__new__" "LookupError.__init__" tlL := ⟨PySem.F.excBase_LookupError, PySem.F.store_LookupError, PySem.W.kxs_LookupError⟩
end Exg
namespace Exg
open PySem PySem.Spec PyProof.Rows L2 Sup Grd
end Exg
/-! C(name = e): an own exception, made by keywords. -/
namespace Exg
open PySem PySem.Spec PyProof.Rows L2 Sup Grd
end Exg
namespace Exg
open PySem PySem.Spec PyProof.Rows L2 Sup Grd
/-! ### what is kept: its fields, its classes -/
/-- an exception at a, of the class at C, with these fields -/
def ExAt (H : Hp) (a C : Addr) (fs : List (Str × V)) : Prop := ∃ dx, H a = some (exo a C (some dx)) ∧ H dx = some (exd dx fs)
/-- an exception at a, its dict made or not -/
def ExIs (H : Hp) (a C : Addr) : Prop := H a = some (exo a C none) ∨ ∃ fs, ExAt H a C fs
theorem ExIs.inst {X : Cx} {pins : List (Addr × Obj)} {s : Shared} {σ : L2.St} {H : Hp} {a C : Addr} (I : Inv X pins σ H s) (h : ExIs H a C) : ∃ ox od, PySem.W.InstAt s.heap a ox C od := by
  rcases h with e | ⟨fs, dx, e, ed⟩
  · obtain ⟨t1, ho⟩ := exo_at I.hok e
    exact ⟨_, none, ho, rfl, rfl, trivial⟩
  · obtain ⟨t1, ho⟩ := exo_at I.hok e
    obtain ⟨mA, hns, _⟩ := exd_at I.hok ed
    obtain ⟨od, _, _, hd, _⟩ := hns
    exact ⟨_, some od, ho, rfl, rfl, hd⟩
end Exg
/-! repr of data with an empty dict in it, where nothing is being shown. -/
namespace Shw
open PySem PySem.Spec PyProof.Rows L2
mutual
/-- data; its lists are none of the interpreter's own -/
inductive Dq (K : PySem.W.Frag) (H : Hp) : V → PyData → Prop
  | non : Dq K H .non .none
  | bl (b : Bool) : Dq K H (.bl b) (.bool b)
  | int (i : Int) : Dq K H (.int i) (.int i)
  | str (x : Str) : Dq K H (.str x) (.str x)
  | lst {a : Addr} {xs : List V} {ds : List PyData} (n : sysModules ≠ a) (h : SqL K H a xs) (r : DqAll K H xs ds) : Dq K H (.ref a) (.list ds)
  | tup {a : Addr} {xs : List V} {ds : List PyData} (h : SqT K H a xs) (r : DqAll K H xs ds) : Dq K H (.ref a) (.tuple ds)
  | dic {a : Addr} (h : Rd H a (.dK [])) : Dq K H (.ref a) (.dict [])
inductive DqAll (K : PySem.W.Frag) (H : Hp) : List V → List PyData → Prop
  | nil : DqAll K H [] []
  | cons {v : V} {vs : List V} {d : PyData} {ds : List PyData} (h : Dq K H v d) (r : DqAll K H vs ds) : DqAll K H (v :: vs) (d :: ds)
end
theorem DqAll.append {K : PySem.W.Frag} {H : Hp} {xs ys : List V} {ds es : List PyData} (h : DqAll K H xs ds) (g : DqAll K H ys es) : DqAll K H (xs ++ ys) (ds ++ es) := by
  induction ds generalizing xs with
  | nil => cases h; exact g
  | cons d ds ih => cases h with | cons a b => exact .cons a (ih b)
theorem rd_same {H H' : Hp} {a : Addr} {u : HO} (s : ∀ b o, H b = some o → H' b = some o) (h : Rd H a u) : Rd H' a u := h.imp (s _ _) fun ⟨o, e⟩ => ⟨o, s _ _ e⟩
mutual
theorem Dq.same {K : PySem.W.Frag} {H H' : Hp} (s : ∀ b o, H b = some o → H' b = some o) : ∀ (d : PyData) (v : V), Dq K H v d → Dq K H' v d
  | .none, _, h => by cases h; exact .non
  | .bool _, _, h => by cases h; exact .bl _
  | .int _, _, h => by cases h; exact .int _
  | .str _, _, h => by cases h; exact .str _
  | .list ds, _, h => by
    cases h with
    | lst n q r => exact .lst n (q.imp (rd_same s) id) (Dq.sameAll s ds _ r)
  | .tuple ds, _, h => by
    cases h with
    | tup q r => exact .tup (q.imp (rd_same s) id) (Dq.sameAll s ds _ r)
  | .dict _, _, h => by
    cases h with
    | dic q => exact .dic (rd_same s q)
theorem Dq.sameAll {K : PySem.W.Frag} {H H' : Hp} (s : ∀ b o, H b = some o → H' b = some o) : ∀ (ds : List PyData) (vs : List V), DqAll K H vs ds → DqAll K H' vs ds
  | [], _, h => by cases h; exact .nil
  | d :: ds, _, h => by
    cases h with
    | cons a b => exact .cons (Dq.same s d _ a) (Dq.sameAll s ds _ b)
end
section
variable {X : Cx} {pins : List (Addr × Obj)} {σ : L2.St} {H : Hp} {s : Shared}
mutual
theorem Dq.reads (I : Inv X pins σ H s) : ∀ (d : PyData) (v : V) (u : Value), Dq X.K H v d → RelV v u → ∃ as, Reads s.heap u d as ∧ sysModules ∉ as
  | .none, _, _, h, r => by
    cases h; cases r
    exact ⟨[], .none, List.not_mem_nil⟩
  | .bool b, _, _, h, r => by
    cases h; cases r
    exact ⟨[], .bool b, List.not_mem_nil⟩
  | .int i, _, _, h, r => by
    cases h
    obtain ⟨t, rfl⟩ := r
    exact ⟨[], .int i t, List.not_mem_nil⟩
  | .str x, _, _, h, r => by
    cases h
    obtain ⟨t, rfl⟩ := r
    exact ⟨[], .str x t, List.not_mem_nil⟩
  | .list ds, _, _, h, r => by
    cases h with
    | lst n hs ha =>
      cases r
      obtain ⟨its, rv, ⟨o, k, ho, hc, _, hd⟩, _⟩ := I.list hs
      obtain ⟨as, hr, hn⟩ := Dq.readsAll I ds _ its ha rv
      exact ⟨_, .list ho hc hd hr, fun z => (List.mem_cons.mp z).elim n hn⟩
  | .tuple ds, _, _, h, r => by
    cases h with
    | tup hs ha =>
      cases r
      obtain ⟨its, rv, ⟨o, ho, hc, k, hd⟩, _⟩ := I.tuple hs
      obtain ⟨as, hr, hn⟩ := Dq.readsAll I ds _ its ha rv
      exact ⟨_, .tuple ho hc hd hr, hn⟩
  | .dict _, _, _, h, r => by
    cases h with
    | dic hs =>
      cases r
      obtain ⟨_, hsm, vs, kv, o, es, ep, ho, hx, hd, hk, hp, _⟩ := dk_rd I.hok hs
      cases kv
      have e0 : es.toList = [] := by
        generalize es.toList = l at hp
        cases hp
        rfl
      refine ⟨_, .dict (as := []) (bs := []) ho hx.1 hd (by rw [e0]; exact .nil) (by rw [e0]; exact .nil), ?_⟩
      intro z
      rw [List.append_nil] at z
      rw [List.mem_singleton.mp z] at hsm
      exact absurd hsm (by simp)
theorem Dq.readsAll (I : Inv X pins σ H s) : ∀ (ds : List PyData) (vs : List V) (us : List Value), DqAll X.K H vs ds → Vals vs us → ∃ as, ReadsAll s.heap us ds as ∧ sysModules ∉ as
  | [], _, _, h, r => by
    cases h; cases r
    exact ⟨[], .nil, List.not_mem_nil⟩
  | d :: ds, _, _, h, r => by
    cases h with
    | cons h1 h2 =>
      cases r with
      | cons r1 r2 =>
        obtain ⟨as, q1, n1⟩ := Dq.reads I d _ _ h1 r1
        obtain ⟨bs, q2, n2⟩ := Dq.readsAll I ds _ _ h2 r2
        exact ⟨_, .cons q1 q2, fun z => (List.mem_append.mp z).elim n1 n2⟩
end
end
section
variable {X : Cx}
/-- what may be shown -/
structure Fit (d : PyData) : Prop where
  sh : PyData.showable d = true
  dp : d.depth ≤ 60
  sz : d.shown.length ≤ sizeLine
/-- new lists -/
theorem big {pins : List (Addr × Obj)} {σ : L2.St} {H : Hp} {s : Shared} (I : Inv X pins σ H s) : sysModules ≠ s.heap.objs.size := Nat.ne_of_lt (StX.env0_big I.env0)
def tLstN (t : TA) : TE := fun σ H Q => t σ H fun xs H1 => xs.length ≤ sizeLine ∧ ∀ p, H1 p = none → sysModules ≠ p → Q (.ref p) (upd H1 p (.lst xs))
theorem pe_lstN {es : List Expr} {t : TA} {pos : Pos} (h : PA X es t) : PE X (.List es pos) (tLstN t) := by
  refine ⟨fun pins s σ H Q I hq => wpAny_List_spliced (thn (h.run pos pins s σ H _ I hq) ?_)⟩
  rintro us s1 ⟨xs, H1, I1, r, z, q⟩
  refine ⟨r.length ▸ z, .ref s1.heap.objs.size, _, I1.lnew (t' := s1.toks) r z, rfl, q _ I1.fresh (big I1)⟩
end
end Shw
namespace Exg
open PySem PySem.Spec PyProof.Rows L2 Sup Grd Shw
open NdefX (NF NScope ncx envF startF CellsAt inv_startN nscope_by)
/-- what is kept, small enough to be told in a message -/
structure Smalls (d : PyData) : Prop where
  fit : Fit d
  sz : d.shown.length ≤ 1000
end Exg
/-! raise C(e): an own error over any built-in base, whose __init__ shows what it is given -/
namespace Exg
open PySem PySem.Spec PyProof.Rows L2 Sup Grd Shw
end Exg
namespace Sj
open PySem L2 Sup StK Own Grd Exg Shw
open NdefX (NF NScope ncx envF startF nscope_by)
open C8 (pss_cut tCut)
/-! Frame.rails, members, [] (k03, k05, ..) -/
def rowsR (g r : Bool) : List (Key × V) := [(Sum.inr "ground", .bl g), (Sum.inr "power", .bl r)]
theorem rowsR_merge (g r : Bool) : mergeK [] (rowsR g r) = rowsR g r := by
  unfold rowsR mergeK putK
  simp +decide
def ttRl : TT := tB (tDGet (tVar 1) (tVar 2))
def railsP (g r : Bool) : Nat → List Str
  | 0 => []
  | 1 => if g then [("ground" : Str)] else []
  | _ => railsZ g r
section
variable {P : Program} {w : World} {K : PySem.W.Frag} {mg : Str → Option Value} {base : Heap}
theorem scFr7 : FnScope ["self", "there", "name"] ["self"] (defScope (sFr 7)) := ⟨rfl, rfl, rfl, by decide +kernel, rfl, by decide +kernel, by decide +kernel⟩
theorem ok_frails {f CF : Addr} {fd : FuncData} {ks : Kinds} (F : Fun K "rails" "Frame.rails" (sFr 7) f fd) (T : FpT P w K mg base ks CF) : FnOk P w K mg base CX0 1 f fd ["self"] (spTup ks CF fun d => railsZ d.g d.r) := by
  refine F.ok scFr7 (fun vs H Q E h => ?_) (fun cdv A outer s H vs Q E hr h => ?_)
  · obtain ⟨a, d, rfl, _⟩ := h
    rfl
  · obtain ⟨a, d, rfl, hF, k⟩ := h
    obtain ⟨dx, D, ea, eD, _⟩ := hF.at_
    refine ⟨_, pss_cons (ps_set (i := 1) scFr7.nd rfl (Or.inr rfl) (pe_disp (pps_cons pe_str (pe_fld (pv 0) rfl) (pps_cons pe_str (pe_fld (pv 0) rfl) pps_nil)) (by rfl) (by rfl) (fun z => by cases z) (by decide)))
      (pss_one (ps_ret (pe_lock (pe_callTy (T := "tuple") call_tuple_of (by rfl) T.tuple (by decide +kernel) (pa_cons (pe_lc (te := tVar 2) (tt := ttRl) (own := [("name", 2)]) (g := gName 2) rfl scFr7.nd (pi_keys (pv 1))
        (blkOk_by (N := ["self", "there", "name"]) (sc := defScope (sFr 7)) (by decide +kernel)) (fun _ _ _ _ _ => pg_name (i := 2) scFr7.nd rfl (Or.inl rfl)) (fun _ _ _ _ _ => pts_one (pt_val (pe_dget (hu_of hr) (pv 1) (pv 2) (fun _ _ => rfl)))) (fun _ _ _ _ _ => pv 2)) pa_nil))))), ?_⟩
    refine fun p hp => ?_
    have hap : a ≠ p := ne_of_none ea hp
    have ea1 : upd H p (.dK []) a = some (.ins CF dx (frF D (.int d.t) (.bl d.g) (.bl d.r))) := by rw [upd_ne hap]; exact ea
    refine ⟨_, rfl, a, CF, dx, _, _, rfl, ea1, T.cl, T.nG, frF_ground _ _ _ _, _, rfl, a, CF, dx, _, _, rfl, ea1, T.cl, T.nP, frF_power _ _ _ _, upd_same, rowsR d.g d.r, rfl, (by show 2 ≤ 15; decide), ?_⟩
    rw [rowsR_merge]
    obtain ⟨H1, e1⟩ : ∃ H1, H1 = upd (upd H p (.dK [])) p (.dK (rowsR d.g d.r)) := ⟨_, rfl⟩
    rw [← e1]
    have hp1 : H1 p = some (.dK (rowsR d.g d.r)) := by rw [e1, upd_same]
    have s1 : Same H H1 := fun b o e => by
      have n := ne_of_none e hp
      rw [e1, upd_ne n, upd_ne n]
      exact e
    refine ⟨p, _, hp1, trivial, fun od => ?_⟩
    obtain ⟨HL, eL⟩ : ∃ HL, HL = upd H1 p (.frz od (.dK (rowsR d.g d.r))) := ⟨_, rfl⟩
    rw [← eL]
    have hpL : HL p = some (.frz od (.dK (rowsR d.g d.r))) := by rw [eL, upd_same]
    refine ⟨_, rfl, p, od, rfl, .inl ⟨_, hpL, fun Dn hDn => ?_⟩⟩
    refine lc_it (walk_keys (d := p) (o := od) (kvs := rowsR d.g d.r)) (fun i H' => Same HL H' ∧ H' Dn = some (.lst (strv (railsP d.g d.r i)))) ⟨same_at hDn, upd_same⟩ (fun i H' _ q => q.1 _ _ hpL) ?_ ?_
    · rintro i x H2 H3 hi ⟨s2, d2⟩ ⟨rfl, kk, vv, hkv, rfl⟩
      refine ⟨rfl, ?_⟩
      have hget : ∀ (z : Str) (v : Bool), valV (rowsR d.g d.r) (Sum.inr z) = some (.bl v) → DGet H3 p (.str z) (some (.bl v)) := fun z v e => .inl ⟨rowsR d.g d.r, Sum.inr z, .inr ⟨od, s2 _ _ hpL⟩, rfl, e.symm⟩
      have go : ∀ (z : Str) (v : Bool) (acc acc' : List Str), valV (rowsR d.g d.r) (Sum.inr z) = some (.bl v) → H3 Dn = some (.lst (strv acc)) → acc.length ≤ 2 → acc' = acc ++ (if v then [z] else []) →
          ttRl [some (.ref a), some (.ref p), some (.str z)] H3 fun b H4 => if b = true then tVar 2 [some (.ref a), some (.ref p), some (.str z)] H4 fun y H5 => ∃ ac, H5 Dn = some (.lst ac) ∧ ac.length < sizeLine ∧ (Same HL (upd H5 Dn (.lst (ac ++ [y]))) ∧ (upd H5 Dn (.lst (ac ++ [y]))) Dn = some (.lst (strv acc'))) else Same HL H4 ∧ H4 Dn = some (.lst (strv acc')) := by
        intro z v acc acc' hv hd hl he
        refine ⟨_, rfl, _, rfl, p, _, rfl, hget z v hv, _, rfl, ?_⟩
        cases v with
        | true =>
          refine ⟨_, rfl, _, hd, ?_, fun c o hc => ?_, ?_⟩
          · show (List.map V.str acc).length < _
            rw [List.length_map]
            exact Nat.lt_of_le_of_lt hl (by decide)
          · rw [upd_ne (ne_of_none hc hDn)]
            exact s2 _ _ hc
          · rw [upd_same, he]
            show _ = some (HO.lst (List.map V.str _))
            rw [List.map_append]
            rfl
        | false =>
          refine ⟨s2, ?_⟩
          rw [he, if_neg Bool.false_ne_true, List.append_nil]
          exact hd
      match i, hi, hkv, d2 with
      | 0, _, hkv, d2 =>
        obtain ⟨rfl, rfl⟩ : Sum.inr ("ground" : Str) = kk ∧ V.bl d.g = vv := by have := Option.some.inj hkv; exact ⟨congrArg Prod.fst this, congrArg Prod.snd this⟩
        exact go "ground" d.g [] (railsP d.g d.r 1) rfl d2 (by decide) rfl
      | 1, _, hkv, d2 =>
        obtain ⟨rfl, rfl⟩ : Sum.inr ("power" : Str) = kk ∧ V.bl d.r = vv := by have := Option.some.inj hkv; exact ⟨congrArg Prod.fst this, congrArg Prod.snd this⟩
        refine go "power" d.r (railsP d.g d.r 1) (railsP d.g d.r 2) rfl d2 ?_ rfl
        show (if d.g then [("ground" : Str)] else []).length ≤ 2
        cases d.g <;> decide
    · rintro H2 ⟨s2, d2⟩
      refine ⟨Dn, _, rfl, .inl ⟨SqL.of d2, fun q hq => ⟨?_, ?_⟩⟩⟩
      · rw [upd_ne (ne_of_none (s2 _ _ hpL) hq)]
        exact s2 _ _ hpL
      · have hqp : q ≠ p := fun z => by rw [z, s2 _ _ hpL] at hq; cases hq
        refine k q _ ?_ (by rw [upd_ne hqp, upd_same]; rfl) (s1.trans (same_unlock hp1 (by rw [← eL]; exact s2.trans (same_at hq))))
        refine s1.free ?_
        cases z : H1 q with
        | none => rfl
        | some o =>
          have e2 : HL q = some o := by rw [eL, upd_ne hqp]; exact z
          rw [s2 _ _ e2] at hq
          cases hq
end
end Sj
namespace Sj
open PySem L2 Sup StK Own Grd Exg Shw
open NdefX (NF NScope ncx envF startF nscope_by)
open C8 (pss_cut tCut)
/-! Frame.members, [], == (k03, k05, ..) -/
theorem FrIs.ins {ks : Kinds} {CF : Addr} {H : Hp} {a : Addr} {d : FrD} (h : FrIs ks CF H a d) : ∃ dx fs, H a = some (.ins CF dx fs) := by
  obtain ⟨dx, D, ea, _⟩ := h.at_
  exact ⟨dx, _, ea⟩
/-- the names of all elements, in order -/
def Mem (d : FrD) (ms : List Str) : Prop := ms.Perm (names d.ys ++ railsZ d.g d.r) ∧ PyProof.Rows.sortedS ms = true
def spMem (ks : Kinds) (CF : Addr) : Sp := fun vs H Q _ => ∃ a d, vs = [.ref a] ∧ FrIs ks CF H a d ∧ ∀ ms p H', Mem d ms → H p = none → H' p = some (.tup (strv ms)) → Same H H' → Q (.ref p) H'
/-- what is no name of a leg -/
def NotLeg (K : PySem.W.Frag) (H : Hp) (x : V) (d : FrD) : Prop := (∃ z : Str, x = .str z ∧ z ∉ names d.ys) ∨ ∃ t : String, TyX K H x (.type t) ∧ kitB t "str" = some false
def spFIs (K : PySem.W.Frag) (ks : Kinds) (CF : Addr) : Sp := fun vs H Q _ => ∃ a d x, vs = [.ref a, x] ∧ FrIs ks CF H a d ∧ ((∃ z : Str, x = .str z ∧ z ∈ names d.ys ∧ Q (.bl true) H) ∨ (NotLeg K H x d ∧ Q (.bl false) H))
theorem spFIs_of {K : PySem.W.Frag} {ks : Kinds} {CF : Addr} {vs : List V} {H : Hp} {Q : VK} {E : XK} (h : spFIs K ks CF vs H Q E) : spFIn K CF vs H Q E := by
  obtain ⟨a, d, x, rfl, hF, h⟩ := h
  refine ⟨a, d.ys, _, _, _, x, rfl, hF.at_, ?_⟩
  rcases h with ⟨z, rfl, hz, k⟩ | ⟨hn, k⟩
  · refine .inl ⟨z, rfl, ?_⟩
    rw [decide_eq_true hz]
    exact k
  · rcases hn with ⟨z, rfl, hz⟩ | ⟨t, ty, e⟩
    · refine .inl ⟨z, rfl, ?_⟩
      rw [decide_eq_false hz]
      exact k
    · exact .inr ⟨t, ty, e, k⟩
end Sj
namespace Sj
open PySem L2 Sup StK Own Grd Exg Shw
open NdefX (NF NScope ncx envF startF nscope_by)
open C8 (pss_cut tCut)
/-! Frame.__eq__ (k03, k05, ..) -/
/-- alike: name and kind -/
def eqLegs (ys zs : List LegR) : Bool := (ys.length == zs.length) && ys.all fun p => zs.any fun q => decide (q.z = p.z) && decide (q.C = p.C)
def eqFr (d e : FrD) : Bool := decide (d.t = e.t) && (decide (d.g = e.g) && decide (d.r = e.r)) && eqLegs d.ys e.ys
def spFEq (K : PySem.W.Frag) (ks : Kinds) (CF : Addr) : Sp := fun vs H Q _ => ∃ a d y, vs = [.ref a, y] ∧ FrIs ks CF H a d ∧ ((∃ b e, y = .ref b ∧ FrIs ks CF H b e ∧ ∀ H', Same H H' → Q (.bl (eqFr d e)) H') ∨ ∃ t, TyX K H y t ∧ PySem.W.kitOne K t (.ref CF) = some false ∧ ∀ H', Same H H' → Q (.bl false) H')
/-- what == of legs asks -/
structure LqT (P : Program) (w : World) (K : PySem.W.Frag) (mg : Str → Option Value) (base : Heap) (ks : Kinds) : Prop where
  eq : ∀ C, (C = ks.drv ∨ C = ks.lis) → EqN P w K mg base 1 C (spEq K C)
  ic : ∀ C, (C = ks.drv ∨ C = ks.lis) → IsiC K C
  nf : ∀ C D, (C = ks.drv ∨ C = ks.lis) → (D = ks.drv ∨ D = ks.lis) → PySem.W.notFirst K C (.ref D) = true
  un : ∀ C D, (C = ks.drv ∨ C = ks.lis) → (D = ks.drv ∨ D = ks.lis) → C ≠ D → PySem.W.kitOne K (.ref D) (.ref C) = some false
structure FeT (P : Program) (w : World) (K : PySem.W.Frag) (mg : Str → Option Value) (base : Heap) (ks : Kinds) (CF : Addr) : Prop where
  ic : IsiC K CF
  nT : NoAttr K CF "top"
  nL : NoAttr K CF "_legs"
  isi : mg "isinstance" = none
  mF : mg "Frame" = some (.ref CF)
  self : PySem.W.kitOne K (.ref CF) (.ref CF) = some true
  lq : LqT P w K mg base ks
  rails : PropN P w K mg base 1 CF "rails" (spTup ks CF fun d => railsZ d.g d.r)
def railsD (g r : Bool) : PyData := .tuple ((railsZ g r).map .str)
theorem dp_strv {K : PySem.W.Frag} {H : Hp} : ∀ zs : List Str, DpAll K H (strv zs) (zs.map PyData.str)
  | [] => .nil
  | z :: zs => .cons (.str z) (dp_strv zs)
theorem railsD_eq (g r g' r' : Bool) : PyData.eqv (railsD g r) (railsD g' r') = (decide (g = g') && decide (r = r')) := by
  cases g <;> cases r <;> cases g' <;> cases r' <;> decide +kernel
theorem railsD_sh (g r : Bool) : SeqAt.shaped (railsD g r) = true := by
  cases g <;> cases r <;> decide +kernel
theorem find_nd : ∀ {ys : List LegR} {p : LegR}, (names ys).Nodup → p ∈ ys → ys.find? (fun q => decide (q.z = p.z)) = some p
  | q :: ys, p, hn, hp => by
    unfold names at hn
    rw [List.map_cons, List.nodup_cons] at hn
    rcases List.mem_cons.mp hp with rfl | hp
    · rw [List.find?_cons_of_pos]
      exact decide_eq_true rfl
    · rw [List.find?_cons_of_neg]
      · exact find_nd hn.2 hp
      · rw [decide_eq_true_eq]
        exact fun e => hn.1 (e ▸ List.mem_map.mpr ⟨p, hp, rfl⟩)
def okK (ys zs : List LegR) : Key → Bool
  | .inr z => match ys.find? (fun q => decide (q.z = z)) with
    | some p => zs.any fun q => decide (q.z = p.z) && decide (q.C = p.C)
    | none => false
  | _ => false
theorem okK_at {ys zs : List LegR} {p : LegR} (hn : (names ys).Nodup) (hp : p ∈ ys) : okK ys zs (Sum.inr p.z) = zs.any fun q => decide (q.z = p.z) && decide (q.C = p.C) := by
  show (match ys.find? (fun q => decide (q.z = p.z)) with | some p => _ | none => false) = _
  rw [find_nd hn hp]
theorem okK_all {ys zs : List LegR} (hn : (names ys).Nodup) : ((ys.map legRow).length == (zs.map legRow).length && (ys.map legRow).all fun p => okK ys zs p.1) = eqLegs ys zs := by
  unfold eqLegs
  rw [List.length_map, List.length_map, List.all_map]
  congr 1
  have e : ∀ p ∈ ys, ((fun p : Key × V => okK ys zs p.1) ∘ legRow) p = zs.any fun q => decide (q.z = p.z) && decide (q.C = p.C) := fun p hp => okK_at hn hp
  refine Bool.eq_iff_iff.mpr ?_
  rw [List.all_eq_true, List.all_eq_true]
  exact ⟨fun h p hp => (e p hp).symm.trans (h p hp), fun h p hp => (e p hp).trans (h p hp)⟩
section
variable {P : Program} {w : World} {K : PySem.W.Frag} {mg : Str → Option Value} {base : Heap}
theorem ok_feq {f CF : Addr} {fd : FuncData} {ks : Kinds} (F : Fun K "__eq__" "Frame.__eq__" (sFr 13) f fd) (T : FeT P w K mg base ks CF) : FnOk P w K mg base CX0 4 f fd ["self", "other"] (spFEq K ks CF) := by
  have sc : FnScope ["self", "other"] ["self", "other"] (defScope (sFr 13)) := ⟨rfl, rfl, rfl, by decide +kernel, rfl, by decide +kernel, by decide +kernel⟩
  refine F.ok sc (fun vs H Q E h => ?_) (fun cdv A outer s H vs Q E hr h => ?_)
  · obtain ⟨a, d, y, rfl, _⟩ := h
    rfl
  · obtain ⟨a, d, y, rfl, hF, h⟩ := h
    obtain ⟨dx, D, ea, eD, _⟩ := id hF.at_
    refine ⟨_, pss_cons (ps_if (PW.pt (pw_or (pt_not (pt_val (pe_callB call_isi (by rfl) T.isi (by decide +kernel) (pa_cons (pv 1) (pa_cons (pe_glob rfl T.mF (v := .ref CF) rfl) pa_nil))))) (pw_or (pt_cmpR op_ne (pe_fld (pv 0) rfl) (pe_fld (pv 1) rfl) (nomark _))
        (pw_or1 (pt_cmpR (op_neD hr.units) (pe_propS (S := fun C => C = CF) (spP := fun _ => spTup ks CF fun d => railsZ d.g d.r) (pv 0) (fun C e => by rw [e]; exact T.rails) (hr.mono (by decide))) (pe_propS (S := fun C => C = CF) (spP := fun _ => spTup ks CF fun d => railsZ d.g d.r) (pv 1) (fun C e => by rw [e]; exact T.rails) (hr.mono (by decide))) (nomark _))))))
        (pss_one (ps_ret pe_bl)) pss_nil)
      (pss_one (ps_ret (pe_cmpR (op_eqOwnD (S := fun C => C = ks.drv ∨ C = ks.lis) (spE := fun C => spEq K C) T.lq.eq hr) (pe_fld (pv 0) rfl) (pe_fld (pv 1) rfl) (nomark _)))), ?_⟩
    rcases h with ⟨b, e, rfl, hE, k⟩ | ⟨t, ty, hk, k⟩
    · obtain ⟨dy, D', eb, eD', _⟩ := id hE.at_
      have tyb : TyX K H (.ref b) (.ref CF) := .base (.ins eb T.ic.cl T.ic.ca T.ic.cn T.ic.ct T.ic.cm)
      refine ⟨_, rfl, _, _, .ref CF, .ref CF, true, rfl, .own _, tyb, T.self, _, rfl, ?_⟩
      refine iteF ⟨_, rfl, a, CF, dx, _, _, rfl, ea, T.ic.cl, T.nT, frF_top _ _ _ _, _, rfl, b, CF, dy, _, _, rfl, eb, T.ic.cl, T.nT, frF_top _ _ _ _, rfl, _, rfl, ?_⟩
      have keq : ∀ v, eqFr d e = v → ∀ H', Same H H' → Q (.bl v) H' := fun v ev H' s => by rw [← ev]; exact k H' s
      by_cases et : d.t = e.t
      · rw [show (!decide (V.int d.t = V.int e.t)) = false by rw [et, decide_eq_true rfl]; rfl]
        refine iteF ⟨_, rfl, a, CF, dx, _, rfl, ea, rfl, a, d, rfl, hF, fun p1 H1 hp1 hv1 s1 => ?_⟩
        refine ⟨_, rfl, b, CF, dy, _, rfl, s1 _ _ eb, rfl, b, e, rfl, hE.same s1, fun p2 H2 hp2 hv2 s2 => ?_⟩
        refine ⟨railsD d.g d.r, railsD e.g e.r, .tup (SqT.of (s2 _ _ hv1)) (dp_strv _), .tup (SqT.of hv2) (dp_strv _), railsD_sh _ _, railsD_sh _ _, _, rfl, ?_⟩
        rw [railsD_eq]
        have s02 := s1.trans s2
        cases eg : (decide (d.g = e.g) && decide (d.r = e.r)) with
        | false =>
          refine iteT (keq _ ?_ _ s02)
          unfold eqFr
          rw [eg, Bool.and_false, Bool.false_and]
        | true =>
          refine iteF ⟨_, rfl, a, CF, dx, _, _, rfl, s02 _ _ ea, T.ic.cl, T.nL, frF_legs _ _ _ _, _, rfl, b, CF, dy, _, _, rfl, s02 _ _ eb, T.ic.cl, T.nL, frF_legs _ _ _ _, ?_⟩
          have eDs := s02 _ _ eD
          have eDs' := s02 _ _ eD'
          refine ⟨D, D', d.ys.map legRow, e.ys.map legRow, okK d.ys e.ys, rfl, rfl, eDs, eDs', fun kk v hm => ?_, fun H3 s3 => ?_⟩
          · obtain ⟨p, hp, epr⟩ := List.mem_map.mp hm
            obtain ⟨rfl, rfl⟩ : Sum.inr p.z = kk ∧ V.ref p.a = v := ⟨congrArg Prod.fst epr, congrArg Prod.snd epr⟩
            by_cases hz : p.z ∈ names e.ys
            · obtain ⟨q, hq, eqz⟩ := List.mem_map.mp hz
              refine .inr ⟨p.a, q.a, rfl, by rw [← eqz]; exact valV_rows e.ys q hE.nd hq, ?_⟩
              have hokv : okK d.ys e.ys (Sum.inr p.z) = decide (q.C = p.C) := by
                rw [okK_at hF.nd hp]
                refine Bool.eq_iff_iff.mpr ⟨fun h => ?_, fun h => ?_⟩
                · obtain ⟨q', hq', hb⟩ := List.any_eq_true.mp h
                  rw [Bool.and_eq_true, decide_eq_true_eq] at hb
                  have e1 := find_nd hE.nd hq
                  have e2 := find_nd hE.nd hq'
                  rw [hb.1, ← eqz] at e2
                  have : q = q' := Option.some.inj (e1.symm.trans e2)
                  rw [this]
                  exact hb.2
                · refine List.any_eq_true.mpr ⟨q, hq, ?_⟩
                  rw [h, Bool.and_true]
                  exact decide_eq_true eqz
              rw [hokv]
              obtain ⟨hcp, dp, ep⟩ := (hF.ok p hp).same s02
              obtain ⟨hcq, dq, eq⟩ := (hE.ok q hq).same s02
              by_cases epq : p.a = q.a
              · refine .inl ⟨epq, ?_⟩
                rw [epq, eq] at ep
                have := Option.some.inj ep
                injection this with c1
                exact decide_eq_true c1
              · refine .inr ⟨epq, fun H3 hb => ?_⟩
                have np : p.a ≠ D := ne_of ep eDs (by intro z; cases z)
                have np' : p.a ≠ D' := ne_of ep eDs' (by intro z; cases z)
                have nq : q.a ≠ D := ne_of eq eDs (by intro z; cases z)
                have nq' : q.a ≠ D' := ne_of eq eDs' (by intro z; cases z)
                have ep3 := hb _ _ ep np np'
                have eq3 := hb _ _ eq nq nq'
                have lq : LegAt H3 q.a q.C q.z := ⟨dq, eq3⟩
                refine ⟨p.a, p.C, dp, _, rfl, ep3, hcp, .inl ⟨.ref q.C, lq.ty (T.lq.ic _ hcq), T.lq.nf _ _ hcp hcq, p.a, p.z, _, rfl, ⟨dp, ep3⟩, ?_⟩⟩
                by_cases hc : q.C = p.C
                · rw [decide_eq_true hc]
                  refine .inl ⟨q.a, q.z, rfl, by rw [← hc]; exact lq, _, rfl, ?_, Same.refl _⟩
                  show V.bl (decide (p.z = q.z)) = V.bl true
                  rw [decide_eq_true eqz.symm]
                · rw [decide_eq_false hc]
                  exact .inr ⟨.ref q.C, lq.ty (T.lq.ic _ hcq), T.lq.un _ _ hcp hcq (Ne.symm hc), _, rfl, rfl, Same.refl _⟩
            · refine .inl ⟨valV_out _ _ hz, ?_⟩
              rw [okK_at hF.nd hp]
              refine List.any_eq_false.mpr fun q hq h => hz ?_
              rw [Bool.and_eq_true, decide_eq_true_eq] at h
              rw [← h.1]
              exact List.mem_map.mpr ⟨q, hq, rfl⟩
          · rw [okK_all hF.nd]
            refine keq _ ?_ _ (s02.trans s3)
            unfold eqFr
            rw [eg, decide_eq_true et]
            rfl
      · rw [show (!decide (V.int d.t = V.int e.t)) = true by rw [decide_eq_false fun z => et (V.int.inj z)]; rfl]
        refine iteT (keq _ ?_ _ (Same.refl H))
        unfold eqFr
        rw [decide_eq_false et]
        rfl
    · exact ⟨_, rfl, _, _, t, .ref CF, false, rfl, .own _, ty, hk, _, rfl, iteT (k H (Same.refl H))⟩
end
end Sj
namespace Sj
open PySem L2 Sup
open NdefX (NF NScope ncx envF startF nscope_by)
open C8 (pss_cut tCut)
abbrev sTags : Stmt := top 55
def poolS : List Str := ["a", "frame", "b", "rest", "self", "c", "zzzzzzzz", "word", "d", "e", "reads", "leg", "x", "grounds", "q"]
def spTags : Sp := fun vs H Q _ => ∃ (p l : Addr) (cs : List Int) (n m : Nat), vs = [.ref p, .int m] ∧ Pen H p l cs n ∧ m ≤ 15 ∧ n < 100000 ∧
  ∀ (H' : Hp) (q : Addr) (xs rest : List Str), H q = none → H' q = some (.lst (xs.map V.str)) → xs.length = m → (xs ++ rest).Perm poolS → Pen H' p l cs (n + m) → But H H' p → Q (.ref q) H'
section
variable {P : Program} {w : World} {K : PySem.W.Frag} {mg : Str → Option Value} {base : Heap}
theorem scTags : FnScope ["_law_pen_here", "_law_many", "_law_pool", "_law_turn"] ["_law_pen_here", "_law_many"] (defScope sTags) := ⟨rfl, rfl, rfl, by decide +kernel, rfl, by decide +kernel, by decide +kernel⟩
theorem map_erase {α β : Type} (f : α → β) : ∀ (xs : List α) (k : Nat), (xs.map f).eraseIdx k = (xs.eraseIdx k).map f
  | [], _ => by simp
  | x :: xs, 0 => rfl
  | x :: xs, k + 1 => by
    show f x :: (xs.map f).eraseIdx k = f x :: (xs.eraseIdx k).map f
    rw [map_erase f xs k]
theorem perm_erase {α : Type} : ∀ (xs : List α) (k : Nat) (h : k < xs.length), ([xs[k]] ++ xs.eraseIdx k).Perm xs
  | x :: xs, 0, _ => List.Perm.refl _
  | x :: xs, k + 1, h => by
    have hk : k < xs.length := Nat.lt_of_succ_lt_succ h
    have q := perm_erase xs k hk
    exact (List.Perm.swap x xs[k] (xs.eraseIdx k)).trans (List.Perm.cons x q)
theorem Pen.same {H H' : Hp} {p l : Addr} {cs : List Int} {n : Nat} (h : Pen H p l cs n) (s : Same H H') : Pen H' p l cs n := by
  obtain ⟨i, g, h1, h2, h3⟩ := h
  exact ⟨i, g, s _ _ h1, s _ _ h2, h3⟩
/-- the reading of _law_pool.pop(_law_draw(_law_pen_here, len(_law_pool))) -/
def rLenQ (K : PySem.W.Frag) : List V → Hp → VK → Prop := fun xs H Q => ∃ p ys, xs = [.ref p] ∧ (SqL K H p ys ∨ SqT K H p ys) ∧ Q (.int ys.length) H
def rPopQ : V → List V → Hp → VK → Prop := fun x ys H Q => ∃ l xs i k y, x = .ref l ∧ ys = [.int i] ∧ H l = some (.lst xs) ∧ -(2 ^ 63) ≤ i ∧ i < 2 ^ 63 ∧ seqIndex? i xs.length = some k ∧ xs[k]? = some y ∧ Q y (upd H l (.lst (xs.eraseIdx k)))
def tePop (K : PySem.W.Frag) : TE := tBM K "list" rPopQ (tVar 2) (tCons (tCall spDraw [] E0 (tCons (tVar 0) (tCons (tCB (rLenQ K) (tCons (tVar 2) tNil)) tNil))) tNil)
theorem ok_tags {f fD : Addr} {fd fdD : FuncData} (F : Fun K "_law_tags" "_law_tags" sTags f fd) (B : Bi mg) (mR : mg "range" = none) (FD : Fun K "_law_draw" "_law_draw" sDraw fD fdD) (bD : Binds K fdD ["_law_pen_here", "_law_many"] []) (mD : mg "_law_draw" = some (.ref fD)) :
    FnOk P w K mg base CX0 2 f fd ["_law_pen_here", "_law_many"] spTags := by
  have GD : FnOk P w K mg base CX0 1 fD fdD ["_law_pen_here", "_law_many"] spDraw := ok_draw FD B
  refine F.ok scTags (fun vs H Q E h => ?_) (fun cdv A outer s H vs Q E hr h => ?_)
  · obtain ⟨p, l, cs, n, m, rfl, _⟩ := h
    rfl
  · obtain ⟨p, l, cs, n, m, rfl, hP, hm, hn, k⟩ := h
    refine ⟨_, pss_cons (ps_set (i := 2) scTags.nd rfl (Or.inr rfl) (pe_lst (pa_cons pe_str (pa_cons pe_str (pa_cons pe_str (pa_cons pe_str (pa_cons pe_str (pa_cons pe_str (pa_cons pe_str (pa_cons pe_str (pa_cons pe_str (pa_cons pe_str (pa_cons pe_str (pa_cons pe_str (pa_cons pe_str (pa_cons pe_str (pa_cons pe_str pa_nil)))))))))))))))))
      (pss_one (ps_ret (pe_lc (te := tePop K) (own := [("_law_turn", 3)]) (g := gName 3) (tt := tYes) rfl scTags.nd (pi_range1 rfl mR (pa_cons (pv 1) pa_nil))
        (blkOk_by (N := ["_law_pen_here", "_law_many", "_law_pool", "_law_turn"]) (sc := defScope sTags) (by decide +kernel)) (fun _ _ _ _ _ => pg_name (i := 3) scTags.nd rfl (Or.inl rfl)) (fun _ _ _ _ _ => pts_nil)
        (fun s0 H0 C0 cl0 fp0 => by
          refine pe_bm PySem.F.plainAttrs_list PySem.F.slot_list_pop PySem.F.type_list_pop mt_popAt ?o ?a
          case o => exact pv 2
          case a =>
            refine pa_cons ?b pa_nil
            refine pe_call GD hr ?g mD FD.kp bD .nil pass0 ?c
            case g => rfl
            case c => exact pa_cons (pv 0) (pa_cons (pe_callB call_len_seq (by rfl) B.len PySem.boot_len (pa_cons (pv 2) pa_nil)) pa_nil))))), ?_⟩
    refine ⟨(by show 15 ≤ sizeLine; decide), fun q3 h3 => ?_⟩
    have hHq3 : H q3 = none := h3
    have s3 : Same H (upd H q3 (.lst (poolS.map V.str))) := fun b o e => by
      rw [upd_ne (ne_of_none e hHq3)]
      exact e
    have key : ∀ D, upd H q3 (.lst (poolS.map V.str)) D = none → upd H q3 (.lst (poolS.map V.str)) D = none := fun _ z => z
    obtain ⟨i0', g0', hp0, hl0, hz0, hi0, hi1⟩ := id hP
    refine ⟨_, rfl, m, rfl, by omega, by omega, fun D hD0 => have hD := key D hD0; lc_range (n := m) (fun i H' => ∃ xs rest : List Str, xs.length = i ∧ (xs ++ rest).Perm poolS ∧ H' q3 = some (.lst (rest.map V.str)) ∧ H' D = some (.lst (xs.map V.str)) ∧ Pen H' p l cs (n + i) ∧ But H H' p) ?_ ?_ ?_⟩
    · have n3D : q3 ≠ D := ne_of_none upd_same hD
      have s4 : Same H (upd (upd H q3 (.lst (poolS.map V.str))) D (.lst [])) := fun b o e => by
        rw [upd_ne (ne_of_none (s3 _ _ e) hD)]
        exact s3 _ _ e
      exact ⟨[], poolS, rfl, List.Perm.refl _, Eq.trans (upd_ne n3D) upd_same, upd_same, hP.same s4, fun b o _ e => s4 _ _ e⟩
    · rintro i H' hi ⟨xs, rest, hx, hperm, hq, hD', hP', hB⟩
      have hlen : xs.length + rest.length = 15 := by
        have q := hperm.length_eq
        rw [List.length_append] at q
        exact q
      have n3p : q3 ≠ p := fun e => by rw [e, hp0] at hHq3; cases hHq3
      have nDp : D ≠ p := fun e => by rw [e, s3 _ _ hp0] at hD; cases hD
      have nD3 : D ≠ q3 := fun e => by rw [e, upd_same] at hD; cases hD
      refine ⟨rfl, ?_⟩
      unfold tYes
      dsimp only
      rw [if_pos rfl]
      refine ⟨_, rfl, .inl ⟨rfl, _, SqL.of hq⟩, _, rfl, _, rfl, q3, _, rfl, .inl (SqL.of hq), p, l, cs, n + i, _, rfl, hP', ?_, ?_, by omega, fun d iz g H2 d0 d1 i0 i1 hp2 b2 => ?_⟩
      · rw [List.length_map]; omega
      · rw [List.length_map]; omega
      · rw [List.length_map] at d1
        have hq2 : H2 q3 = some (.lst (rest.map V.str)) := b2 _ _ n3p hq
        have hD2 : H2 D = some (.lst (xs.map V.str)) := b2 _ _ nDp hD'
        have hk : d.toNat < rest.length := by omega
        refine ⟨q3, rest.map V.str, d, d.toNat, .str rest[d.toNat], rfl, rfl, hq2, by omega, by omega, seqIndex_of d0 (by rw [List.length_map]; omega), by simp [hk], xs.map V.str, ?_, ?_, ?_⟩
        · exact Eq.trans (upd_ne nD3) hD2
        · rw [List.length_map]; exact Nat.lt_of_le_of_lt (show xs.length ≤ 16 by omega) (by decide)
        · refine ⟨xs ++ [rest[d.toNat]], rest.eraseIdx d.toNat, by rw [List.length_append, hx]; rfl, ?_, ?_, ?_, ?_, ?_⟩
          · refine List.Perm.trans ?_ hperm
            rw [List.append_assoc]
            exact List.Perm.append_left _ (perm_erase rest _ hk)
          · rw [upd_ne nD3.symm, upd_same]
            congr 2
            exact (map_erase V.str rest d.toNat)
          · rw [upd_same, List.map_append]
            rfl
          · have hl' : ∃ i g, H' p = some (penO l i g) ∧ H' l = some (.lst (cs.map V.int)) := by
              obtain ⟨a, b, c, d, _⟩ := hP'
              exact ⟨a, b, c, d⟩
            obtain ⟨ia, ga, hpa, hla⟩ := hl'
            have n3l : q3 ≠ l := fun e => by rw [e, hl0] at hHq3; cases hHq3
            have nDl : D ≠ l := fun e => by rw [e, s3 _ _ hl0] at hD; cases hD
            have npl : l ≠ p := fun e => by
              subst e
              rw [hp0] at hl0
              have z := List.map_eq_cons_iff.mp (HO.lst.inj (Option.some.inj hl0)).symm
              obtain ⟨_, _, _, w1, _⟩ := z
              cases w1
            refine ⟨iz, g, ?_, ?_, hz0, i0, by omega⟩
            · rw [upd_ne nDp.symm, upd_ne n3p.symm]; exact hp2
            · rw [upd_ne nDl.symm, upd_ne n3l.symm]; exact b2 _ _ npl hla
          · intro b o hb e
            have e1 := hB b o hb e
            have nb3 : b ≠ q3 := ne_of_none e hHq3
            have nbD : b ≠ D := fun z => by rw [z] at e; rw [s3 _ _ e] at hD; cases hD
            rw [upd_ne nbD, upd_ne nb3]
            exact b2 _ _ hb e1
    · rintro H' ⟨xs, rest, hx, hperm, hq, hD', hP', hB⟩
      have hHD : H D = none := by
        cases e : H D with
        | none => rfl
        | some o => rw [s3 _ _ e] at hD; cases hD
      exact k H' D xs rest hHD hD' hx hperm hP' hB
end
end Sj
/-! texts in order: of one multitude there is one order -/
namespace OrdS
open PySem PySem.Spec PyProof.Rows
theorem lt_anti : ∀ a b : List Nat, ltCps a b = false → ltCps b a = false → a = b
  | [], [], _, _ => rfl
  | [], _ :: _, h, _ => by cases h
  | _ :: _, [], _, h => by cases h
  | x :: a, y :: b, h, g => by
    have h1 : (decide (x < y) || (x == y && ltCps a b)) = false := h
    have g1 : (decide (y < x) || (y == x && ltCps b a)) = false := g
    rw [Bool.or_eq_false_iff, decide_eq_false_iff_not] at h1 g1
    have e : x = y := by omega
    subst e
    rw [beq_self_eq_true, Bool.true_and] at h1 g1
    rw [lt_anti a b h1.2 g1.2]
theorem le_trans : ∀ a b c : List Nat, ltCps b a = false → ltCps c b = false → ltCps c a = false
  | [], _, [], _, _ => rfl
  | [], [], _ :: _, _, _ => rfl
  | [], _ :: _, _ :: _, _, _ => rfl
  | _ :: _, [], _, h, _ => by cases h
  | _ :: _, _ :: _, [], _, h => by cases h
  | x :: a, y :: b, z :: c, h, g => by
    have h1 : (decide (y < x) || (y == x && ltCps b a)) = false := h
    have g1 : (decide (z < y) || (z == y && ltCps c b)) = false := g
    show (decide (z < x) || (z == x && ltCps c a)) = false
    rw [Bool.or_eq_false_iff, decide_eq_false_iff_not] at h1 g1 ⊢
    refine ⟨by omega, ?_⟩
    by_cases e : z = x
    · have e2 : y = x := by omega
      subst e2
      subst e
      rw [beq_self_eq_true, Bool.true_and] at h1 g1 ⊢
      exact le_trans a b c h1.2 g1.2
    · rw [beq_eq_false_iff_ne.mpr e, Bool.false_and]
def Le (a b : Str) : Prop := ltCps b.cps.toList a.cps.toList = false
theorem Le.anti {a b : Str} (h : Le a b) (g : Le b a) : a = b := by
  have e := lt_anti _ _ g h
  cases a
  cases b
  congr 1
  exact Array.ext' e
theorem Le.trans {a b c : Str} (h : Le a b) (g : Le b c) : Le a c := le_trans _ _ _ h g
theorem rising_pw : ∀ (l : List Str) (p : Str), risingS p l = true → (p :: l).Pairwise Le
  | [], p, _ => List.pairwise_singleton _ _
  | x :: r, p, h => by
    have h1 : (!ltCps x.cps.toList p.cps.toList && risingS x r) = true := h
    rw [Bool.and_eq_true, Bool.not_eq_true'] at h1
    have ih := rising_pw r x h1.2
    refine List.pairwise_cons.mpr ⟨fun y hy => ?_, ih⟩
    rcases List.mem_cons.mp hy with rfl | hy
    · exact h1.1
    · exact Le.trans h1.1 ((List.pairwise_cons.mp ih).1 y hy)
theorem sorted_pw : ∀ {l : List Str}, sortedS l = true → l.Pairwise Le
  | [], _ => .nil
  | x :: r, h => rising_pw r x h
theorem pw_uniq : ∀ {ys zs : List Str}, ys.Perm zs → ys.Pairwise Le → zs.Pairwise Le → ys = zs
  | [], zs, hp, _, _ => (List.Perm.eq_nil hp.symm).symm
  | y :: ys, [], hp, _, _ => by cases List.Perm.eq_nil hp
  | y :: ys, z :: zs, hp, hy, hz => by
    have hy' := List.pairwise_cons.mp hy
    have hz' := List.pairwise_cons.mp hz
    have m1 : y ∈ z :: zs := hp.mem_iff.mp List.mem_cons_self
    have m2 : z ∈ y :: ys := hp.mem_iff.mpr List.mem_cons_self
    have e : y = z := by
      rcases List.mem_cons.mp m1 with e | m1
      · exact e
      · rcases List.mem_cons.mp m2 with e | m2
        · exact e.symm
        · exact (hy'.1 z m2).anti (hz'.1 y m1)
    subst e
    rw [pw_uniq hp.cons_inv hy'.2 hz'.2]
theorem uniq {ys zs : List Str} (hp : ys.Perm zs) (hy : sortedS ys = true) (hz : sortedS zs = true) : ys = zs := pw_uniq hp (sorted_pw hy) (sorted_pw hz)
end OrdS
namespace Sj
open PySem L2 Sup StK Own
open NdefX (NF NScope ncx envF startF nscope_by)
open C8 (pss_cut tCut)
/-! what the laws of frames share: small things, _law_bare (k03, k05, ..) -/
/-- a class of legs, made by place -/
structure MkL (P : Program) (w : World) (K : PySem.W.Frag) (mg : Str → Option Value) (base : Heap) (CI C : Addr) (nm : Str) : Prop where
  ex : ∃ (f : Addr) (fd : FuncData), Mk K C f ∧ FnOk P w K mg base (L2.CX P w) 4 f fd ["self", "name"] (spLegI K CI C) ∧ Binds K fd ["self", "name"] []
  mg : mg nm = some (.ref C)
theorem passNo {P : Program} {w : World} {X : Cx} (h1 : X.prog = P) (h2 : X.w = w) : Passes (L2.CX P w) X E0 := by
  rintro pins σ H s e s' I ⟨a, B, H', cls, d, _, _, _, _, _, _, _, z⟩
  exact z.elim
abbrev tMk (K : PySem.W.Frag) (CI C : Addr) (te : TE) : TE := tMake C (spLegI K CI C) [] E0 (tCons te tNil)
/-- a leg is made -/
theorem mk_rd {K : PySem.W.Frag} {CI C : Addr} {z : Str} {te : TE} {σ : L2.St} {H : Hp} {Q : VK} (hte : ∀ Q' : VK, Q' (.str z) H → te σ H Q') (hn : isName z = true) (hz : z.length ≤ 1000) (k : ∀ a H', H a = none → LegAt H' a C z → Same H H' → Q (.ref a) H') : tMk K CI C te σ H Q := by
  refine hte _ fun x dx hx hdx hne => ⟨x, dx, .str z, rfl, upd_same, .inl ⟨z, rfl, hz, fun _ H' hp hb => ⟨rfl, k x H' hx ⟨dx, hp⟩ fun b o e => ?_⟩, fun h => absurd hn (by rw [h]; exact Bool.false_ne_true)⟩⟩
  refine hb b o (ne_of_none e hx) ?_
  rw [upd_ne (ne_of_none e hx), upd_ne (ne_of_none e hdx)]
  exact e
theorem Pen.at' {H : Hp} {p l : Addr} {cs : List Int} {n : Nat} (h : Pen H p l cs n) : ∃ xs, H p = some (.lst xs) := by
  obtain ⟨i, g, h1, _⟩ := h
  exact ⟨_, h1⟩
theorem Pen.mono {H : Hp} {p l : Addr} {cs : List Int} {n m : Nat} (h : Pen H p l cs n) (hm : n ≤ m) : Pen H p l cs m := by
  obtain ⟨i, g, h1, h2, h3, h4, h5⟩ := h
  exact ⟨i, g, h1, h2, h3, h4, by omega⟩
theorem But.same {H H1 H2 : Hp} {p : Addr} (a : But H H1 p) (s : Same H1 H2) : But H H2 p := fun b o hb e => s _ _ (a b o hb e)
theorem But.of {H H1 : Hp} {p : Addr} (s : Same H H1) : But H H1 p := fun b o _ e => s _ _ e
/-- what was laid behind the entry is not the pen -/
theorem nep {H0 : Hp} {p l q : Addr} {cs : List Int} {n : Nat} (hP : Pen H0 p l cs n) (h : H0 q = none) : q ≠ p := fun e => by
  obtain ⟨xs, z⟩ := hP.at'
  rw [e, z] at h
  cases h
theorem But.free {H H' : Hp} {p q : Addr} (b : But H H' p) (hp : q ≠ p) (h : H' q = none) : H q = none := by
  cases z : H q with
  | none => rfl
  | some o =>
    rw [b _ _ hp z] at h
    cases h
/-- the pen is a list: what is none of these stays -/
theorem But.keep {H H' : Hp} {p l q : Addr} {cs : List Int} {n : Nat} {o : HO} (b : But H H' p) (hP : Pen H p l cs n) (e : H q = some o) (no : ∀ ys, o ≠ .lst ys) : H' q = some o := by
  obtain ⟨xs, hp⟩ := hP.at'
  exact b _ _ (ne_of e hp (no xs)) e
structure DwT (P : Program) (w : World) (K : PySem.W.Frag) (mg : Str → Option Value) (base : Heap) : Prop where
  bi : Bi mg
  sorted : mg "sorted" = none
  draw : ∃ f fd, mg "_law_draw" = some (.ref f) ∧ PySem.W.keepIn K (.ref f) = true ∧ Binds K fd ["_law_pen_here", "_law_many"] [] ∧ FnOk P w K mg base CX0 1 f fd ["_law_pen_here", "_law_many"] spDraw
  tags : ∃ f fd, mg "_law_tags" = some (.ref f) ∧ PySem.W.keepIn K (.ref f) = true ∧ Binds K fd ["_law_pen_here", "_law_many"] [] ∧ FnOk P w K mg base CX0 2 f fd ["_law_pen_here", "_law_many"] spTags
/-- a plain frame as data -/
structure BareD where
  t : Int
  ds : List Str
  ls : List Str
  g : Bool
  r : Bool
structure BareD.ok (d : BareD) : Prop where
  t1 : 1 ≤ d.t
  t3 : d.t ≤ 3
  nd : (d.ds ++ d.ls).Nodup
  po : ∀ z ∈ d.ds ++ d.ls, z ∈ poolS
  sd : d.ds.Pairwise OrdS.Le
  sl : d.ls.Pairwise OrdS.Le
  le : d.ds.length + d.ls.length ≤ 16
def rowsB (t : Int) (dl ll rl : Addr) : List (Key × V) := [(Sum.inr "top", .int t), (Sum.inr "drivers", .ref dl), (Sum.inr "listeners", .ref ll), (Sum.inr "rails", .ref rl)]
def rows3 (t : Int) (dl ll : Addr) : List (Key × V) := [(Sum.inr "top", .int t), (Sum.inr "drivers", .ref dl), (Sum.inr "listeners", .ref ll)]
/-- it stands at b, apart from p -/
structure BareAt (H : Hp) (b : Addr) (d : BareD) (p : Addr) : Prop where
  ex : ∃ dl ll rl, H b = some (.dK (rowsB d.t dl ll rl)) ∧ H dl = some (.lst (strv d.ds)) ∧ H ll = some (.lst (strv d.ls)) ∧ H rl = some (.lst (strv (railsZ d.g d.r))) ∧ dl ≠ p ∧ ll ≠ p ∧ rl ≠ p
theorem BareAt.same {H H' : Hp} {b p : Addr} {d : BareD} (h : BareAt H b d p) (s : Same H H') : BareAt H' b d p := by
  obtain ⟨dl, ll, rl, h1, h2, h3, h4, h5⟩ := h.ex
  exact ⟨dl, ll, rl, s _ _ h1, s _ _ h2, s _ _ h3, s _ _ h4, h5⟩
theorem BareAt.but {H H' : Hp} {b p l : Addr} {cs : List Int} {n : Nat} {d : BareD} (h : BareAt H b d p) (hP : Pen H p l cs n) (s : But H H' p) : BareAt H' b d p := by
  obtain ⟨dl, ll, rl, h1, h2, h3, h4, h5, h6, h7⟩ := h.ex
  exact ⟨dl, ll, rl, s.keep hP h1 (fun ys z => by cases z), s _ _ h5 h2, s _ _ h6 h3, s _ _ h7 h4, h5, h6, h7⟩
theorem pool_ok : ∀ z ∈ poolS, isName z = true ∧ z.length ≤ 8 := by
  have h : (poolS.all fun z => isName z && decide (z.length ≤ 8)) = true := by decide +kernel
  intro z hz
  have e := List.all_eq_true.mp h z hz
  rw [Bool.and_eq_true, decide_eq_true_eq] at e
  exact e
theorem pool_nd : poolS.Nodup := by decide +kernel
abbrev sBare : Stmt := top 56
abbrev nBa : List Str := ["_law_pen_here", "_law_most", "_law_tags_here", "_law_bare_here", "_law_tag", "_law_part_so"]
theorem scBa : FnScope nBa ["_law_pen_here", "_law_most"] (defScope sBare) := ⟨rfl, rfl, rfl, by decide +kernel, rfl, by decide +kernel, by decide +kernel⟩
def spBare : Sp := fun vs H Q _ => ∃ (p l : Addr) (cs : List Int) (n m : Nat), vs = [.ref p, .int m] ∧ Pen H p l cs n ∧ m ≤ 15 ∧ n < 90000 ∧ ∀ b d H', d.ok → d.ds.length + d.ls.length ≤ m → H b = none → BareAt H' b d p → Pen H' p l cs (n + 40) → But H H' p → Q (.ref b) H'
/-- where the loop stands -/
structure BaInv (H0 H : Hp) (p l : Addr) (cs : List Int) (n : Nat) (b dl ll sl : Addr) (t : Int) (xs : List Str) (i : Nat) : Prop where
  pen : Pen H p l cs (n + i)
  hb : H b = some (.dK (rows3 t dl ll))
  sl_ : H sl = some (.lst (strv xs))
  ex : ∃ ds ls, H dl = some (.lst (strv ds)) ∧ H ll = some (.lst (strv ls)) ∧ ds.Sublist (xs.take i) ∧ ls.Sublist (xs.take i) ∧ (ds ++ ls).Perm (xs.take i)
  bt : But H0 H p
theorem sub_snoc {α : Type} {ds xs : List α} {i : Nat} (h : ds.Sublist (xs.take i)) (hi : i < xs.length) : (ds ++ [xs[i]]).Sublist (xs.take (i + 1)) := by
  rw [List.take_add_one, List.getElem?_eq_getElem hi]
  exact h.append (List.Sublist.refl _)
theorem sub_keep {α : Type} {ds xs : List α} {i : Nat} (h : ds.Sublist (xs.take i)) (hi : i < xs.length) : ds.Sublist (xs.take (i + 1)) := by
  rw [List.take_add_one]
  exact h.trans (List.sublist_append_left _ _)
end Sj
namespace Sj
open PySem L2 Sup StK Own
open NdefX (NF NScope ncx envF startF nscope_by)
open C8 (pss_cut tCut)
/-! _law_bare -/
theorem rows3_merge (t : Int) (dl ll : Addr) : mergeK [] (rows3 t dl ll) = rows3 t dl ll := by
  unfold rows3 mergeK putK
  simp +decide
theorem rows3_drv (t : Int) (dl ll x : Addr) : putK (rows3 t dl ll) (Sum.inr "drivers" : Key) (.ref x) = rows3 t x ll := by
  unfold rows3 putK
  simp +decide
theorem rows3_lis (t : Int) (dl ll x : Addr) : putK (rows3 t dl ll) (Sum.inr "listeners" : Key) (.ref x) = rows3 t dl x := by
  unfold rows3 putK
  simp +decide
theorem rows3_put (t : Int) (dl ll rl : Addr) : putK (rows3 t dl ll) (Sum.inr "rails" : Key) (.ref rl) = rowsB t dl ll rl := by
  unfold rows3 rowsB putK
  simp +decide
section
variable {P : Program} {w : World} {K : PySem.W.Frag} {mg : Str → Option Value} {base : Heap}
theorem ok_bare {f : Addr} {fd : FuncData} (F : Fun K "_law_bare" "_law_bare" sBare f fd) (T : DwT P w K mg base) : FnOk P w K mg base CX0 3 f fd ["_law_pen_here", "_law_most"] spBare := by
  obtain ⟨fd_, fdd, md, kd, bd, Gd⟩ := T.draw
  obtain ⟨ft, fdt, mt, kt, bt, Gt⟩ := T.tags
  refine F.ok scBa (fun vs H Q E h => ?_) (fun cdv A outer s H vs Q E hr h => ?_)
  · obtain ⟨p, l, cs, n, m, rfl, _⟩ := h
    rfl
  · obtain ⟨p, l, cs, n, m, rfl, hP, hm, hn, k⟩ := h
    have hr1 := hr.mono (show 1 ≤ 2 by decide)
    refine ⟨_, pss_cons (ps_set (i := 2) scBa.nd rfl (Or.inl rfl) (pe_call Gt hr rfl mt kt bt .nil pass0 (pa_cons (pv 0) (pa_cons (pe_call Gd hr1 rfl md kd bd .nil pass0 (pa_cons (pv 0) (pa_cons (pe_op op_add (pv 1) pe_int) pa_nil))) pa_nil))))
      (pss_cons (ps_set (i := 3) scBa.nd rfl (Or.inl rfl) (pe_disp (pps_cons pe_str (pe_op op_add pe_int (pe_call Gd hr1 rfl md kd bd .nil pass0 (pa_cons (pv 0) (pa_cons pe_int pa_nil)))) (pps_cons pe_str (pe_lst pa_nil) (pps_cons pe_str (pe_lst pa_nil) pps_nil))) (by rfl) (by rfl) (fun z => by cases z) (by decide)))
      (pss_cons (ps_for PassesOwn.never rfl (pi_list (pv 2)) (pg_name (i := 4) scBa.nd rfl (Or.inl rfl))
        (pss_one (ps_expr (pe_bm PySem.F.plainAttrs_list PySem.F.slot_list_append PySem.F.type_list_append mt_append (pe_dget (hu_of hr) (pv 3) (pe_ix ix_list (pe_lst (pa_cons pe_str (pa_cons pe_str (pa_cons pe_str (pa_cons pe_str pa_nil))))) (pe_call Gd hr1 rfl md kd bd .nil pass0 (pa_cons (pv 0) (pa_cons pe_int pa_nil))) (fun _ _ => rfl)) (fun _ _ => rfl)) (pa_cons (pv 4) pa_nil)))))
      (pss_cons (ps_for PassesOwn.never rfl (pi_tup (pe_tup (pa_cons pe_str (pa_cons pe_str pa_nil)))) (pg_name (i := 5) scBa.nd rfl (Or.inl rfl))
        (pss_one (ps_dput (hu_of hr) (pv 3) (pv 5) (pe_callB cr_sortedS (by rfl) T.sorted (by decide +kernel) (pa_cons (pe_dget (hu_of hr) (pv 3) (pv 5) (fun _ _ => rfl)) pa_nil)) rfl)))
      (pss_cons (ps_dput (hu_of hr) (pv 3) pe_str (pe_ix ix_list (pe_lst (pa_cons (pe_lst pa_nil) (pa_cons (pe_lst pa_nil) (pa_cons (pe_lst (pa_cons pe_str pa_nil)) (pa_cons (pe_lst (pa_cons pe_str pa_nil)) (pa_cons (pe_lst (pa_cons pe_str (pa_cons pe_str pa_nil))) pa_nil)))))) (pe_call Gd hr1 rfl md kd bd .nil pass0 (pa_cons (pv 0) (pa_cons pe_int pa_nil))) (fun _ _ => rfl)) rfl)
      (pss_one (ps_ret (pv 3))))))), ?_⟩
    -- the names
    refine ⟨_, rfl, _, rfl, _, rfl, (m : Int), 1, rfl, rfl, p, l, cs, n, (m : Int) + 1, rfl, hP, by omega, by omega, by omega, fun d1 i1 g1 H1 d0 dm i0 in1 hp1 b1 => ?_⟩
    have P1 : Pen H1 p l cs (n + 1) := hP.next i0 in1 hp1 b1
    obtain ⟨q, rfl⟩ : ∃ q : Nat, d1 = (q : Int) := ⟨d1.toNat, by omega⟩
    refine ⟨p, l, cs, n + 1, q, rfl, P1, by omega, by omega, fun H2 tl zs rest htl htl2 hlen hperm P2 b2 => ?_⟩
    have b02 := b1.trans b2
    have tlp : tl ≠ p := nep P1 htl
    have hpool : ∀ z ∈ zs, z ∈ poolS := fun z hz => hperm.mem_iff.mp (List.mem_append_left _ hz)
    have hndz : zs.Nodup := by
      have := hperm.nodup_iff.mpr pool_nd
      rw [List.nodup_append] at this
      exact this.1
    have tl0 : H tl = none := b1.free tlp htl
    -- the dict
    refine fun b hb => ?_
    have b0 : H b = none := b02.free (nep P2 hb) hb
    have P2b : Pen (upd H2 b (.dK [])) p l cs (n + 1 + q) := P2.same (same_at hb)
    refine ⟨_, rfl, p, l, cs, n + 1 + q, 3, rfl, P2b, by omega, by omega, by omega, fun d3 i3 g3 H3 d30 d33 i30 in3 hp3 b3 => ?_⟩
    have P3 : Pen H3 p l cs (n + 2 + q) := (P2b.next i30 in3 hp3 b3).mono (by omega)
    have hb3 : H3 b = some (.dK []) := b3.keep P2b upd_same (fun ys z => by cases z)
    have htl3 : H3 tl = some (.lst (strv zs)) := b3 _ _ tlp (same_at hb _ _ htl2)
    have b03 : But H H3 p := (b02.same (same_at hb)).trans b3
    refine ⟨1, d3, rfl, rfl, by show 0 ≤ sizeLine; decide, fun dl hdl => ⟨by show 0 ≤ sizeLine; decide, fun ll hll => ?_⟩⟩
    obtain ⟨H5, e5⟩ : ∃ H5, H5 = upd (upd H3 dl (.lst [])) ll (.lst []) := ⟨_, rfl⟩
    rw [← e5]
    have s35 : Same H3 H5 := by rw [e5]; exact (same_at hdl).trans (same_at hll)
    have hll0 : H3 ll = none := (same_at (o := .lst []) hdl).free hll
    have nld : ll ≠ dl := fun z => by rw [z, upd_same] at hll; cases hll
    have hdl5 : H5 dl = some (.lst (strv [])) := by rw [e5, upd_ne (Ne.symm nld), upd_same]; rfl
    have hll5 : H5 ll = some (.lst (strv [])) := by rw [e5, upd_same]; rfl
    have dlp : dl ≠ p := nep P3 hdl
    have llp : ll ≠ p := nep P3 hll0
    have dl0 : H dl = none := b03.free dlp hdl
    have ll0 : H ll = none := b03.free llp hll0
    have nbd : b ≠ dl := ne_of_none hb3 hdl
    have nbl : b ≠ ll := ne_of_none hb3 hll0
    refine ⟨s35 _ _ hb3, rows3 (1 + d3) dl ll, rfl, by show 3 ≤ 15; decide, ?_⟩
    rw [rows3_merge]
    obtain ⟨H6, e6⟩ : ∃ H6, H6 = upd H5 b (.dK (rows3 (1 + d3) dl ll)) := ⟨_, rfl⟩
    rw [← e6]
    have hb6 : H6 b = some (.dK (rows3 (1 + d3) dl ll)) := by rw [e6, upd_same]
    have ne6 : ∀ {c : Addr} {o : HO}, H5 c = some o → c ≠ b → H6 c = some o := fun e n => by rw [e6, upd_ne n]; exact e
    have P6 : Pen H6 p l cs (n + 2 + q) := by
      obtain ⟨i, g, h1, h2, h3⟩ := P3
      exact ⟨i, g, ne6 (s35 _ _ h1) (ne_of h1 hb3 (by intro z; cases z)), ne6 (s35 _ _ h2) (ne_of h2 hb3 (by intro z; cases z)), h3⟩
    have b06 : But H H6 p := fun c o hc e => ne6 (s35 _ _ (b03 c o hc e)) (ne_of_none e b0)
    have htl6 : H6 tl = some (.lst (strv zs)) := ne6 (s35 _ _ htl3) (ne_of htl3 hb3 (by intro z; cases z))
    have hdl6 := ne6 hdl5 (Ne.symm nbd)
    have hll6 := ne6 hll5 (Ne.symm nbl)
    have nsd : tl ≠ dl := ne_of_none htl3 hdl
    have nsl : tl ≠ ll := ne_of_none htl3 hll0
    have hxl2 : (strv zs).length = zs.length := List.length_map _
    have zq : zs.length = q := hlen
    refine ⟨_, rfl, tl, rfl, ⟨_, SqL.of htl6⟩, for_list (xs := strv zs) (fun i σ H' => (∃ o4, σ = ([some (.ref p), some (.int m), some (.ref tl), some (.ref b), o4, none] : List (Option V))) ∧ BaInv H H' p l cs (n + 2 + q) b dl ll tl (1 + d3) zs i) ⟨⟨_, rfl⟩, ⟨P6, hb6, htl6, ⟨[], [], hdl6, hll6, List.nil_sublist _, List.nil_sublist _, .nil⟩, b06⟩⟩ (fun i σ H' _ h => SqL.of h.2.sl_) ?_ ?_⟩
    · rintro i x σ H8 hx ⟨⟨o4, rfl⟩, ⟨P8, hb8, hsl8, ⟨ds, ls, hds, hls, sds, sls, hper⟩, b08⟩⟩
      have hi' : i < zs.length := by rw [← hxl2]; exact (List.getElem?_eq_some_iff.mp hx).1
      have ex : (strv zs)[i]? = some (.str zs[i]) := by show (zs.map V.str)[i]? = _; rw [List.getElem?_map, List.getElem?_eq_getElem hi']; rfl
      rw [ex] at hx
      obtain rfl := Option.some.inj hx
      refine ⟨_, rfl, by show 4 ≤ sizeLine; decide, fun w4 hw4 => ?_⟩
      have s89 := same_at (o := .lst [V.str "drivers", .str "drivers", .str "drivers", .str "listeners"]) hw4
      have P9 := P8.same s89
      have w4p : w4 ≠ p := nep P8 hw4
      refine ⟨_, rfl, p, l, cs, _, 4, rfl, P9, by omega, by omega, by omega, fun d4 i4 g4 H10 d40 d41 i40 in4 hp10 b10 => ?_⟩
      have P10 := P9.next i40 in4 hp10 b10
      have hw10 := b10 _ _ w4p (upd_same (H := H8) (a := w4) (o := .lst [V.str "drivers", .str "drivers", .str "drivers", .str "listeners"]))
      have b810 : But H8 H10 p := (But.of s89).trans b10
      have hdsl : ds.length ≤ zs.length := Nat.le_trans sds.length_le (by rw [List.length_take]; omega)
      have hlsl : ls.length ≤ zs.length := Nat.le_trans sls.length_le (by rw [List.length_take]; omega)
      have hb10 := b810.keep P8 hb8 (fun ys z => by cases z)
      have hsl10 := b810 _ _ tlp hsl8
      have hds10 := b810 _ _ dlp hds
      have hls10 := b810 _ _ llp hls
      have z15 : zs.length ≤ 15 := by omega
      obtain ⟨y, hy, hyy⟩ : ∃ y, atI [V.str "drivers", .str "drivers", .str "drivers", .str "listeners"] d4 = some y ∧ (y = .str "drivers" ∨ y = .str "listeners") := by
        rcases (show d4 = ((0 : Nat) : Int) ∨ d4 = ((1 : Nat) : Int) ∨ d4 = ((2 : Nat) : Int) ∨ d4 = ((3 : Nat) : Int) by omega) with e | e | e | e
        · exact ⟨_, by rw [e]; exact atI_nat (j := 0) rfl, .inl rfl⟩
        · exact ⟨_, by rw [e]; exact atI_nat (j := 1) rfl, .inl rfl⟩
        · exact ⟨_, by rw [e]; exact atI_nat (j := 2) rfl, .inl rfl⟩
        · exact ⟨_, by rw [e]; exact atI_nat (j := 3) rfl, .inr rfl⟩
      have hpt : zs.take (i + 1) = zs.take i ++ [zs[i]] := by rw [List.take_add_one, List.getElem?_eq_getElem hi']; rfl
      rcases hyy with rfl | rfl
      · refine ⟨w4, _, d4, _, rfl, rfl, SqL.of hw10, hy, b, _, rfl, DGet.k (k := Sum.inr "drivers") hb10, ?_⟩
        refine ⟨.inl ⟨rfl, _, SqL.of hds10⟩, _, rfl, dl, _, _, rfl, rfl, hds10, ?_, ⟨⟨_, rfl⟩, ?_⟩⟩
        · show (List.map _ ds).length < _
          rw [List.length_map]
          exact Nat.lt_of_le_of_lt (show ds.length ≤ 16 by omega) (by decide)
        · refine ⟨?_, by rw [upd_ne nbd]; exact hb10, by rw [upd_ne nsd]; exact hsl10, ⟨ds ++ [zs[i]], ls, ?_, by rw [upd_ne nld]; exact hls10, sub_snoc sds hi', sub_keep sls hi', ?_⟩, fun c o hc e => ?_⟩
          · obtain ⟨i', g', h1, h2, h3⟩ := P10
            refine ⟨i', g', by rw [upd_ne (Ne.symm dlp)]; exact h1, ?_, h3.1, h3.2.1, by omega⟩
            rw [upd_ne (fun z => ?_)]
            · exact h2
            · obtain ⟨i0', g0', q1, q2, _⟩ := hP
              rw [z, dl0] at q2
              cases q2
          · rw [upd_same]
            show _ = some (HO.lst (List.map V.str _))
            rw [List.map_append]
            rfl
          · rw [hpt, List.append_assoc]
            refine List.Perm.trans ?_ (hper.append_right [zs[i]])
            rw [List.append_assoc]
            exact List.Perm.append_left ds List.perm_append_comm
          · rw [upd_ne (ne_of_none e dl0)]
            exact (b08.trans b810) c o hc e
      · refine ⟨w4, _, d4, _, rfl, rfl, SqL.of hw10, hy, b, _, rfl, DGet.k (k := Sum.inr "listeners") hb10, ?_⟩
        refine ⟨.inl ⟨rfl, _, SqL.of hls10⟩, _, rfl, ll, _, _, rfl, rfl, hls10, ?_, ⟨⟨_, rfl⟩, ?_⟩⟩
        · show (List.map _ ls).length < _
          rw [List.length_map]
          exact Nat.lt_of_le_of_lt (show ls.length ≤ 16 by omega) (by decide)
        · refine ⟨?_, by rw [upd_ne nbl]; exact hb10, by rw [upd_ne nsl]; exact hsl10, ⟨ds, ls ++ [zs[i]], by rw [upd_ne (Ne.symm nld)]; exact hds10, ?_, sub_keep sds hi', sub_snoc sls hi', ?_⟩, fun c o hc e => ?_⟩
          · obtain ⟨i', g', h1, h2, h3⟩ := P10
            refine ⟨i', g', by rw [upd_ne (Ne.symm llp)]; exact h1, ?_, h3.1, h3.2.1, by omega⟩
            rw [upd_ne (fun z => ?_)]
            · exact h2
            · obtain ⟨i0', g0', q1, q2, _⟩ := hP
              rw [z, ll0] at q2
              cases q2
          · rw [upd_same]
            show _ = some (HO.lst (List.map V.str _))
            rw [List.map_append]
            rfl
          · rw [hpt, ← List.append_assoc]
            exact hper.append_right [zs[i]]
          · rw [upd_ne (ne_of_none e ll0)]
            exact (b08.trans b810) c o hc e
    · rintro σ H8 ⟨⟨o4, rfl⟩, ⟨P8, hb8, hsl8, ⟨ds, ls, hds, hls, sds, sls, hper⟩, b08⟩⟩
      rw [hxl2, List.take_length] at sds sls hper
      have lsum : ds.length + ls.length = zs.length := by
        have := hper.length_eq
        rw [List.length_append] at this
        exact this
      -- each sorted
      refine ⟨by show 2 ≤ sizeLine; decide, fun t ht => ?_⟩
      have s89 := same_at (o := .tup [V.str "drivers", .str "listeners"]) ht
      have ht9 : upd H8 t (.tup [V.str "drivers", .str "listeners"]) t = some (.tup [V.str "drivers", .str "listeners"]) := upd_same
      refine ⟨t, rfl, ⟨_, SqT.of ht9⟩, ?_⟩
      refine for_it (walk_tup (K := K) (a := t) (xs := [V.str "drivers", .str "listeners"])) (fun j σ H' => (∃ o5, σ = ([some (.ref p), some (.int m), some (.ref tl), some (.ref b), o4, o5] : List (Option V))) ∧ Pen H' p l cs (n + 2 + q + (strv zs).length) ∧ But H H' p ∧ H' t = some (.tup [V.str "drivers", .str "listeners"]) ∧
          ∃ dl' ll' ds' ls', H' b = some (.dK (rows3 (1 + d3) dl' ll')) ∧ H' dl' = some (.lst (strv ds')) ∧ H' ll' = some (.lst (strv ls')) ∧ dl' ≠ p ∧ ll' ≠ p ∧ ds'.Perm ds ∧ ls'.Perm ls ∧ (1 ≤ j → PyProof.Rows.sortedS ds' = true) ∧ (2 ≤ j → PyProof.Rows.sortedS ls' = true))
        ⟨⟨_, rfl⟩, P8.same s89, b08.same s89, ht9, dl, ll, ds, ls, s89 _ _ hb8, s89 _ _ hds, s89 _ _ hls, dlp, llp, .refl _, .refl _, fun h => absurd h (by decide), fun h => absurd h (by decide)⟩ (fun j σ H' _ h => .inl (.inl h.2.2.2.1)) ?_ ?_
      · rintro j x σ Hz Ha hj ⟨⟨o5, rfl⟩, Pa, ba, hta, dl', ll', ds', ls', hba, hda, hla, ndp, nlp, pd, pl, so1, so2⟩ ⟨rfl, hx1⟩
        have hj2 : j < 2 := hj
        have one : ∀ {ad : Addr} {zs' xs' : List Str} {sl : Addr}, H b = none → Ha b = some (.dK (rows3 (1 + d3) dl' ll')) → Ha sl = none → ∀ (R : List (Key × V)), Pen (upd (upd Ha sl (.lst (strv xs'))) b (.dK R)) p l cs (n + 2 + q + (strv zs).length) ∧ But H (upd (upd Ha sl (.lst (strv xs'))) b (.dK R)) p ∧ upd (upd Ha sl (.lst (strv xs'))) b (.dK R) t = some (.tup [V.str "drivers", .str "listeners"]) ∧ upd (upd Ha sl (.lst (strv xs'))) b (.dK R) sl = some (.lst (strv xs')) ∧ sl ≠ p := fun {ad zs' xs' sl} hb0 hba' hsl R => by
          have s1 := same_at (o := .lst (strv xs')) hsl
          have nbs : sl ≠ b := fun e => by rw [e, hba'] at hsl; cases hsl
          have hb1 := s1 _ _ hba'
          have P1 := Pa.same s1
          refine ⟨?_, fun c o hc e => ?_, ?_, ?_, nep Pa hsl⟩
          · obtain ⟨i', g', q1, q2, q3⟩ := P1
            exact ⟨i', g', by rw [upd_ne (ne_of q1 hb1 (by intro z; cases z))]; exact q1, by rw [upd_ne (ne_of q2 hb1 (by intro z; cases z))]; exact q2, q3⟩
          · rw [upd_ne (ne_of_none e hb0)]
            exact s1 _ _ (ba c o hc e)
          · rw [upd_ne (ne_of (s1 _ _ hta) hb1 (by intro z; cases z))]
            exact s1 _ _ hta
          · rw [upd_ne nbs]
            exact upd_same
        match j, hj2, hx1, so1, so2 with
        | 0, _, hx1, so1, so2 =>
          obtain rfl := Option.some.inj hx1
          refine ⟨_, rfl, _, rfl, b, _, rfl, DGet.k (k := Sum.inr "drivers") hba, dl', ds', rfl, SqL.of hda, by rw [pd.length_eq]; omega, fun xs sl hxs hso hsl => ?_⟩
          have s1 := same_at (o := .lst (xs.map V.str)) hsl
          refine ⟨_, rfl, _, rfl, b, _, rfl, DPut.k (k := Sum.inr "drivers") (s1 _ _ hba) (by show 3 < sizeLine; decide), ?_⟩
          rw [rows3_drv]
          obtain ⟨z1, z2, z3, z4, z5⟩ := one (ad := 0) (zs' := []) (xs' := xs) b0 hba hsl (rows3 (1 + d3) sl ll')
          refine ⟨⟨_, rfl⟩, z1, z2, z3, sl, ll', xs, ls', upd_same, z4, ?_, z5, nlp, hxs.trans pd, pl, fun _ => hso, fun h => absurd h (by decide)⟩
          rw [upd_ne (ne_of (s1 _ _ hla) (s1 _ _ hba) (by intro z; cases z))]
          exact s1 _ _ hla
        | 1, _, hx1, so1, so2 =>
          obtain rfl := Option.some.inj hx1
          refine ⟨_, rfl, _, rfl, b, _, rfl, DGet.k (k := Sum.inr "listeners") hba, ll', ls', rfl, SqL.of hla, by rw [pl.length_eq]; omega, fun xs sl hxs hso hsl => ?_⟩
          have s1 := same_at (o := .lst (xs.map V.str)) hsl
          refine ⟨_, rfl, _, rfl, b, _, rfl, DPut.k (k := Sum.inr "listeners") (s1 _ _ hba) (by show 3 < sizeLine; decide), ?_⟩
          rw [rows3_lis]
          obtain ⟨z1, z2, z3, z4, z5⟩ := one (ad := 0) (zs' := []) (xs' := xs) b0 hba hsl (rows3 (1 + d3) dl' sl)
          refine ⟨⟨_, rfl⟩, z1, z2, z3, dl', sl, ds', xs, upd_same, ?_, z4, ndp, z5, pd, hxs.trans pl, fun _ => so1 (by decide), fun _ => hso⟩
          rw [upd_ne (ne_of (s1 _ _ hda) (s1 _ _ hba) (by intro z; cases z))]
          exact s1 _ _ hda
      rintro σ Ha ⟨⟨o5, rfl⟩, Pa, ba, hta, dl', ll', ds', ls', hba, hda, hla, ndp, nlp, pd, pl, so1, so2⟩
      -- rails
      refine ⟨by show 0 ≤ sizeLine; decide, fun r0 h0 => ⟨by show 0 ≤ sizeLine; decide, fun r1 h1 => ⟨by show 1 ≤ sizeLine; decide, fun r2 h2 => ⟨by show 1 ≤ sizeLine; decide, fun r3 h3 => ⟨by show 2 ≤ sizeLine; decide, fun r4 h4 => ⟨by show 5 ≤ sizeLine; decide, fun L hL => ?_⟩⟩⟩⟩⟩⟩
      have t0 := same_at (o := .lst []) h0
      have t1 := same_at (o := .lst []) h1
      have t2 := same_at (o := .lst [.str "ground"]) h2
      have t3 := same_at (o := .lst [.str "power"]) h3
      have t4 := same_at (o := .lst [.str "ground", .str "power"]) h4
      have tL := same_at (o := .lst [.ref r0, .ref r1, .ref r2, .ref r3, .ref r4]) hL
      have t34 := t4.trans tL
      have t24 := t3.trans t34
      have t14 := t2.trans t24
      have t04 := t1.trans t14
      have t05 := t0.trans t04
      have n0 : r0 ≠ p := nep Pa h0
      have n1 : r1 ≠ p := nep (Pa.same t0) h1
      have n2 : r2 ≠ p := nep ((Pa.same t0).same t1) h2
      have n3 : r3 ≠ p := nep (((Pa.same t0).same t1).same t2) h3
      have n4 : r4 ≠ p := nep ((((Pa.same t0).same t1).same t2).same t3) h4
      have nL : L ≠ p := nep (((((Pa.same t0).same t1).same t2).same t3).same t4) hL
      have e0 := t04 _ _ (upd_same (H := Ha) (a := r0) (o := .lst []))
      have e1 := t14 _ _ (upd_same (a := r1) (o := .lst []))
      have e2 := t24 _ _ (upd_same (a := r2) (o := .lst [.str "ground"]))
      have e3 := t34 _ _ (upd_same (a := r3) (o := .lst [.str "power"]))
      have e4 := tL _ _ (upd_same (a := r4) (o := .lst [.str "ground", .str "power"]))
      obtain ⟨Hb, eHb⟩ : ∃ Hb, Hb = upd (upd (upd (upd (upd (upd Ha r0 (.lst [])) r1 (.lst [])) r2 (.lst [.str "ground"])) r3 (.lst [.str "power"])) r4 (.lst [.str "ground", .str "power"])) L (.lst [V.ref r0, .ref r1, .ref r2, .ref r3, .ref r4]) := ⟨_, rfl⟩
      have eL : Hb L = some (.lst [.ref r0, .ref r1, .ref r2, .ref r3, .ref r4]) := by rw [eHb, upd_same]
      rw [← eHb] at t05 e0 e1 e2 e3 e4 ⊢
      have Pb := Pa.same t05
      refine ⟨_, rfl, p, l, cs, _, 5, rfl, Pb, by omega, by omega, by rw [hxl2]; omega, fun d5 i5 g5 H10 d50 d51 i50 in5 hp10 b10 => ?_⟩
      have P10 := Pb.next i50 in5 hp10 b10
      obtain ⟨y, g, r, rl, hy, rfl, hrl, hrp⟩ : ∃ y g r rl, atI [V.ref r0, .ref r1, .ref r2, .ref r3, .ref r4] d5 = some y ∧ y = .ref rl ∧ H10 rl = some (.lst (strv (railsZ g r))) ∧ rl ≠ p := by
        rcases (show d5 = ((0 : Nat) : Int) ∨ d5 = ((1 : Nat) : Int) ∨ d5 = ((2 : Nat) : Int) ∨ d5 = ((3 : Nat) : Int) ∨ d5 = ((4 : Nat) : Int) by omega) with e | e | e | e | e
        · exact ⟨_, false, false, r0, by rw [e]; exact atI_nat (j := 0) rfl, rfl, b10 _ _ n0 e0, n0⟩
        · exact ⟨_, false, false, r1, by rw [e]; exact atI_nat (j := 1) rfl, rfl, b10 _ _ n1 e1, n1⟩
        · exact ⟨_, true, false, r2, by rw [e]; exact atI_nat (j := 2) rfl, rfl, b10 _ _ n2 e2, n2⟩
        · exact ⟨_, false, true, r3, by rw [e]; exact atI_nat (j := 3) rfl, rfl, b10 _ _ n3 e3, n3⟩
        · exact ⟨_, true, true, r4, by rw [e]; exact atI_nat (j := 4) rfl, rfl, b10 _ _ n4 e4, n4⟩
      have ba10 : But Ha H10 p := (But.of t05).trans b10
      have hb10 := ba10.keep Pa hba (fun ys z => by cases z)
      have hd10 := ba10 _ _ ndp hda
      have hl10 := ba10 _ _ nlp hla
      refine ⟨L, _, d5, _, rfl, rfl, SqL.of (b10 _ _ nL eL), hy, _, rfl, b, _, rfl, DPut.k (k := Sum.inr "rails") hb10 (by show 3 < sizeLine; decide), _, rfl, ?_⟩
      rw [rows3_put]
      have nrb : rl ≠ b := ne_of hrl hb10 (by intro z; cases z)
      have ndb : dl' ≠ b := ne_of hd10 hb10 (by intro z; cases z)
      have nlb : ll' ≠ b := ne_of hl10 hb10 (by intro z; cases z)
      have pmz : (ds' ++ ls').Perm zs := (List.Perm.append pd pl).trans hper
      refine k b ⟨1 + d3, ds', ls', g, r⟩ _ ⟨by show (1 : Int) ≤ 1 + d3; omega, by show (1 : Int) + d3 ≤ 3; omega, pmz.nodup_iff.mpr hndz, fun z hz => hpool z (pmz.mem_iff.mp hz), OrdS.sorted_pw (so1 (by decide)), OrdS.sorted_pw (so2 (by decide)), ?_⟩ ?_ b0 ⟨dl', ll', rl, upd_same, by rw [upd_ne ndb]; exact hd10, by rw [upd_ne nlb]; exact hl10, by rw [upd_ne nrb]; exact hrl, ndp, nlp, hrp⟩ ?_ fun c o hc e => ?_
      · show ds'.length + ls'.length ≤ 16
        rw [pd.length_eq, pl.length_eq]
        omega
      · show ds'.length + ls'.length ≤ m
        rw [pd.length_eq, pl.length_eq]
        omega
      · obtain ⟨i', g', q1, q2, q3⟩ := P10
        rw [hxl2, zq] at q3
        exact ⟨i', g', by rw [upd_ne (ne_of q1 hb10 (by intro z; cases z))]; exact q1, by rw [upd_ne (ne_of q2 hb10 (by intro z; cases z))]; exact q2, q3.1, q3.2.1, by omega⟩
      · rw [upd_ne (ne_of_none e b0)]
        exact (ba.trans ba10) c o hc e
end
end Sj
namespace Sj
open PySem L2 Sup StK Own
open NdefX (NF NScope ncx envF startF nscope_by)
open C8 (pss_cut tCut)
/-! _law_frame (k03, k05, ..) -/
section
variable {P : Program} {w : World} {K : PySem.W.Frag} {mg : Str → Option Value} {base : Heap} {f : Addr} {fd : FuncData} {ks : Kinds} {CI CF : Addr}
abbrev psO : List Str := ["cls", "legs", "top", "ground", "power"]
theorem of_kwB (F : FunD K "of" "Frame.of" (defArgs sOf) (defBody sOf) (defScope sOf) [] kwsF f fd) (G : FnOk P w K mg base (L2.CX P w) 6 f fd psO (spOf K ks CI CF)) :
    FnK P w K mg base (L2.CX P w) 6 f ksB (fun vs zs H Q E => vs.length = 2 ∧ spOf K ks CI CF (vs ++ zs) H Q E) := by
  obtain ⟨mv, hb⟩ := F.kbinds0 (ps := psO) 2 ksB [] (fun us mv ws => us ++ ws) (by decide) (fun q h => nomatch h) (fun r1 _ r3 => r1.append r3)
    (fun D doc pm an cdv ct us mv ws h1 h2 h3 => match us, mv, ws, h1, h2, h3 with
      | [a, b], [], [x, y, z], _, _, _ => rfl)
  exact fnK_of G hb
end
theorem topIn {K : PySem.W.Frag} {H : Hp} {i : Int} (h1 : 1 ≤ i) (h3 : i ≤ 3) : TopIs K H (.int i) true := .inl ⟨i, rfl, by rw [decide_eq_true h1, decide_eq_true h3]; rfl⟩
theorem railIn {K : PySem.W.Frag} {H : Hp} {b : Bool} : RailIs K H (.bl b) true := ⟨"bool", .base (.bl b), by decide +kernel⟩
/-- the legs ys are the drivers ds and the listeners ls -/
def KindsOf (ks : Kinds) (ys : List LegR) (ds ls : List Str) : Prop := ∃ rs1 rs2 : List LegR, ys.Perm (rs1 ++ rs2) ∧ names rs1 = ds ∧ names rs2 = ls ∧ (∀ r ∈ rs1, r.C = ks.drv) ∧ ∀ r ∈ rs2, r.C = ks.lis
abbrev sFrm : Stmt := top 57
abbrev nFm : List Str := ["_law_bare_here", "_law_some", "_law_rails_so", "_law_tag"]
theorem scFm : FnScope nFm ["_law_bare_here"] (defScope sFrm) := ⟨rfl, rfl, rfl, by decide +kernel, rfl, by decide +kernel, by decide +kernel⟩
def spFrm (ks : Kinds) (CF : Addr) : Sp := fun vs H Q _ => ∃ (b : Addr) (d : BareD) (p : Addr), vs = [.ref b] ∧ BareAt H b d p ∧ d.ok ∧ ∀ a ys H', FrIs ks CF H' a ⟨ys, d.t, d.g, d.r⟩ → KindsOf ks ys d.ds d.ls → H a = none → Same H H' → Q (.ref a) H'
structure FkT (P : Program) (w : World) (K : PySem.W.Frag) (mg : Str → Option Value) (base : Heap) (ks : Kinds) (CI CF : Addr) : Prop where
  d : MkL P w K mg base CI ks.drv "Driver"
  i : MkL P w K mg base CI ks.lis "Listener"
  mF : mg "Frame" = some (.ref CF)
  of : ∃ mc q gO, ClX.CRead K CF mc ∧ ClX.CMet K CF mc "of" q gO ∧ FnK P w K mg base (L2.CX P w) 6 gO ksB (fun vs zs H Q E => vs.length = 2 ∧ spOf K ks CI CF (vs ++ zs) H Q E)
def teMk (K : PySem.W.Frag) (CI C : Addr) : TE := tMk K CI C (tVar 3)
theorem names_append (xs ys : List LegR) : names (xs ++ ys) = names xs ++ names ys := List.map_append
theorem refs_append (xs ys : List LegR) : refs (xs ++ ys) = refs xs ++ refs ys := List.map_append
/-- [C(tag) for tag in zs] -/
theorem mk_walk {K : PySem.W.Frag} {CI C q D : Addr} {zs : List Str} {H : Hp} {σ : L2.St} {Qd : Hp → Prop} (hσ : σ.length = 4) (hq : H q = some (.lst (strv zs))) (hD : H D = none) (hz : ∀ z ∈ zs, z ∈ poolS) (hl : zs.length ≤ 16)
    (hd : ∀ H' rs, Same H H' → H' D = some (.lst (refs rs)) → names rs = zs → (∀ r ∈ rs, r.C = C ∧ LegAt H' r.a C r.z) → Qd H') :
    ∃ W : Nat → Nat → Hp → Prop, (∃ m, W 0 m (upd H D (.lst []))) ∧ ∀ i m H, W i m H →
      ((Itl K q).stop i H ∧ Qd H) ∨ ((Itl K q).go i H ∧ ∃ Nx : Hp → Prop, (∀ H', Nx H' → ∃ m', m' < m ∧ W (i + 1) m' H') ∧ ∀ x H', (Itl K q).yld i H x H' → gName 3 x (wipe σ [3]) H' fun σ2 H2 => wipe σ2 [3] = wipe σ [3] ∧ tYes σ2 H2 fun b H3 =>
        if b = true then teMk K CI C σ2 H3 fun y H4 => ∃ acc, H4 D = some (.lst acc) ∧ acc.length < sizeLine ∧ Nx (upd H4 D (.lst (acc ++ [y]))) else Nx H3) := by
  match σ, hσ with
  | [u0, u1, u2, u3], _ =>
  have hlm : (strv zs).length = zs.length := List.length_map _
  refine lc_it (walk_list (K := K) (a := q) (xs := strv zs)) (fun i H' => Same H H' ∧ ∃ rs, H' D = some (.lst (refs rs)) ∧ names rs = zs.take i ∧ ∀ r ∈ rs, r.C = C ∧ LegAt H' r.a C r.z) ⟨same_at hD, [], upd_same, rfl, fun r hr => by cases hr⟩ (fun i H' _ p => SqL.of (p.1 _ _ hq)) ?_ ?_
  · rintro i x H1 H2 hi ⟨s1, rs, d1, hn, hr⟩ ⟨rfl, hx⟩
    rw [hlm] at hi
    have ex : (strv zs)[i]? = some (.str zs[i]) := by show (zs.map V.str)[i]? = _; rw [List.getElem?_map, List.getElem?_eq_getElem hi]; rfl
    rw [ex] at hx
    obtain rfl := Option.some.inj hx
    refine ⟨rfl, ?_⟩
    unfold tYes
    dsimp only
    rw [if_pos rfl]
    obtain ⟨o1, o2⟩ := pool_ok _ (hz _ (List.getElem_mem hi))
    unfold teMk
    refine mk_rd (fun Q'' q => ⟨_, rfl, q⟩) o1 (by omega) fun a H3 ha la s3 => ?_
    have d3 := s3 _ _ d1
    have nDa : D ≠ a := fun z => by
      obtain ⟨dx, e⟩ := la
      rw [← z, d3] at e
      cases e
    have keepD : ∀ {c C' : Addr} {z : Str} {o : HO}, LegAt H3 c C' z → LegAt (upd H3 D o) c C' z := fun ⟨dx, e⟩ => ⟨dx, by rw [upd_ne (ne_of e d3 (by intro z; cases z))]; exact e⟩
    refine ⟨_, d3, ?_, fun c o hc => ?_, rs ++ [⟨a, C, zs[i]⟩], ?_, ?_, fun r hr' => ?_⟩
    · have e1 : rs.length = (zs.take i).length := by rw [← hn]; unfold names; rw [List.length_map]
      show (List.map _ rs).length < _
      rw [List.length_map, e1, List.length_take]
      exact Nat.lt_of_le_of_lt (Nat.min_le_right _ _) (Nat.lt_of_le_of_lt hl (by decide))
    · rw [upd_ne (ne_of_none hc hD)]
      exact s3 _ _ (s1 _ _ hc)
    · rw [upd_same, refs_append]
      rfl
    · rw [names_append, hn, List.take_add_one, List.getElem?_eq_getElem hi]
      rfl
    · rcases List.mem_append.mp hr' with hr' | hr'
      · exact ⟨(hr r hr').1, keepD ((hr r hr').2.same s3)⟩
      · obtain rfl := List.mem_singleton.mp hr'
        exact ⟨rfl, keepD la⟩
  · rintro H1 ⟨s1, rs, d1, hn, hr⟩
    rw [hlm, List.take_length] at hn
    exact hd H1 rs s1 d1 hn hr
theorem inV_rails (g r : Bool) : inV (.str "ground") (strv (railsZ g r)) = g ∧ inV (.str "power") (strv (railsZ g r)) = r := by
  cases g <;> cases r <;> decide +kernel
theorem flat_strv : ∀ zs : List Str, (strv zs).all flatV = true
  | [] => rfl
  | z :: zs => by
    show (flatV (.str z) && (strv zs).all flatV) = true
    rw [flat_strv zs]
    rfl
section
variable {P : Program} {w : World} {K : PySem.W.Frag} {mg : Str → Option Value} {base : Heap}
theorem ok_frm {f CI CF : Addr} {fd : FuncData} {ks : Kinds} (F : Fun K "_law_frame" "_law_frame" sFrm f fd) (T : FkT P w K mg base ks CI CF) : FnOk P w K mg base CX0 7 f fd ["_law_bare_here"] (spFrm ks CF) := by
  obtain ⟨⟨fD, fdD, MD, GD, bD⟩, mD⟩ := T.d
  obtain ⟨⟨fI, fdI, MI, GI, bI⟩, mI⟩ := T.i
  obtain ⟨mc, qO, gO, cr, cm, GB⟩ := T.of
  refine F.ok scFm (fun vs H Q E h => ?_) (fun cdv A outer s H vs Q E hr h => ?_)
  · obtain ⟨b, d, p, rfl, _⟩ := h
    rfl
  · obtain ⟨b, d, p, rfl, hB, ok, k⟩ := h
    obtain ⟨dl, ll, rl, hb, hdl, hll, hrl, _⟩ := hB.ex
    have hr5 := hr.mono (show 5 ≤ 6 by decide)
    refine ⟨_, pss_cons (ps_set (i := 1) scFm.nd rfl (Or.inl rfl) (pe_op op_cat
        (pe_lc (te := teMk K CI ks.drv) (own := [("_law_tag", 3)]) (g := gName 3) (tt := tYes) rfl scFm.nd (pi_list (pe_dget (hu_of hr) (pv 0) pe_str (fun _ _ => rfl))) (blkOk_by (N := nFm) (sc := defScope sFrm) (by decide +kernel))
          (fun _ _ _ _ _ => pg_name (i := 3) scFm.nd rfl (Or.inl rfl)) (fun _ _ _ _ _ => pts_nil) (fun _ _ _ _ _ => pe_make MD GD hr5 rfl mD bD .nil (passNo rfl rfl) (pa_cons (pv 3) pa_nil)))
        (pe_lc (te := teMk K CI ks.lis) (own := [("_law_tag", 3)]) (g := gName 3) (tt := tYes) rfl scFm.nd (pi_list (pe_dget (hu_of hr) (pv 0) pe_str (fun _ _ => rfl))) (blkOk_by (N := nFm) (sc := defScope sFrm) (by decide +kernel))
          (fun _ _ _ _ _ => pg_name (i := 3) scFm.nd rfl (Or.inl rfl)) (fun _ _ _ _ _ => pts_nil) (fun _ _ _ _ _ => pe_make MI GI hr5 rfl mI bI .nil (passNo rfl rfl) (pa_cons (pv 3) pa_nil)))))
      (pss_one (ps_ret (pe_cmethK (pe_glob rfl T.mF (v := .ref CF) rfl) cr cm GB hr (passNo rfl rfl) (pa_cons (pv 1) pa_nil) (pk_cons (pe_dget (hu_of hr) (pv 0) pe_str (fun _ _ => rfl)) (pk_cons (pe_cmpR op_in_seq pe_str (pe_dget (hu_of hr) (pv 0) pe_str (fun _ _ => rfl)) (by rfl)) (pk_cons (pe_cmpR op_in_seq pe_str (pe_dget (hu_of hr) (pv 0) pe_str (fun _ _ => rfl)) (by rfl)) pk_nil)))))), ?_⟩
    have lds : d.ds.length ≤ 16 := by have := ok.le; omega
    have lls : d.ls.length ≤ 16 := by have := ok.le; omega
    refine ⟨_, rfl, b, _, rfl, DGet.k (k := Sum.inr "drivers") hb, dl, rfl, ⟨_, SqL.of hdl⟩, fun D1 hD1 => ?_⟩
    refine mk_walk rfl hdl hD1 (fun z hz => ok.po z (List.mem_append_left _ hz)) lds fun H1 rs1 s1 d1 n1 r1 => ?_
    refine ⟨_, rfl, b, _, rfl, DGet.k (k := Sum.inr "listeners") (s1 _ _ hb), ll, rfl, ⟨_, SqL.of (s1 _ _ hll)⟩, fun D2 hD2 => ?_⟩
    refine mk_walk rfl (s1 _ _ hll) hD2 (fun z hz => ok.po z (List.mem_append_right _ hz)) lls fun H2 rs2 s2 d2 n2 r2 => ?_
    have e1 : rs1.length = d.ds.length := by rw [← n1]; unfold names; rw [List.length_map]
    have e2 : rs2.length = d.ls.length := by rw [← n2]; unfold names; rw [List.length_map]
    have c1 : (refs rs1).length = rs1.length := List.length_map _
    have c2 : (refs rs2).length = rs2.length := List.length_map _
    refine ⟨D1, D2, refs rs1, refs rs2, rfl, rfl, s2 _ _ d1, d2, Nat.le_trans (show _ ≤ 32 by omega) (by decide), fun L hL => ?_⟩
    obtain ⟨H3, e3⟩ : ∃ H3, H3 = upd H2 L (.lst (refs rs1 ++ refs rs2)) := ⟨_, rfl⟩
    have s3 : Same H2 H3 := by rw [e3]; exact same_at hL
    have hL3 : H3 L = some (.lst (refs (rs1 ++ rs2))) := by rw [e3, upd_same, refs_append]
    rw [← e3]
    have s03 := (s1.trans s2).trans s3
    have hb3 := s03 _ _ hb
    have hrl3 := s03 _ _ hrl
    refine ⟨rfl, _, rfl, _, rfl, b, _, rfl, DGet.k (k := Sum.inr "top") hb3, _, rfl, b, _, rfl, DGet.k (k := Sum.inr "rails") hb3, rl, _, rfl, .inl (SqL.of hrl3), rfl, flat_strv _, _, rfl, b, _, rfl, DGet.k (k := Sum.inr "rails") hb3, rl, _, rfl, .inl (SqL.of hrl3), rfl, flat_strv _, rfl, rfl, ?_⟩
    rw [if_neg Bool.false_ne_true, if_neg Bool.false_ne_true, (inV_rails d.g d.r).1, (inV_rails d.g d.r).2]
    have hrs : ∀ r ∈ rs1 ++ rs2, r.ok ks H3 := fun r hr' => by
      rcases List.mem_append.mp hr' with h | h
      · exact ⟨.inl (r1 r h).1, by rw [(r1 r h).1]; exact (((r1 r h).2.same s2).same s3)⟩
      · exact ⟨.inr (r2 r h).1, by rw [(r2 r h).1]; exact ((r2 r h).2.same s3)⟩
    have hnm : names (rs1 ++ rs2) = d.ds ++ d.ls := by rw [names_append, n1, n2]
    have hdue : due (names (rs1 ++ rs2)) true (true && true) = .non := by
      unfold due
      rw [hnm, List.length_append, if_neg (by have := ok.le; omega), if_pos ok.nd]
      rfl
    refine ⟨_, _, _, _, true, true, true, rfl, topIn ok.t1 ok.t3, railIn, railIn, .inr ⟨L, _, rfl, .inl hL3, ?_, .inr ⟨rs1 ++ rs2, rfl, hrs, fun z hz => ?_, fun _ a H4 ys ha ho hf s4 => ?_⟩⟩⟩
    · rw [refs_append, List.length_append]
      omega
    · rw [hdue] at hz
      cases hz
    · have hpn : (names ys).Perm (d.ds ++ d.ls) := by rw [← hnm]; exact ho.1.map _
      refine k a ys H4 ⟨hf, fun r hr' => (hrs r (ho.1.mem_iff.mp hr')).same s4, hpn.nodup_iff.mpr ok.nd, ?_, ho.2⟩ ⟨rs1, rs2, ho.1, n1, n2, fun r h => (r1 r h).1, fun r h => (r2 r h).1⟩ (s03.free ha) (s03.trans s4)
      rw [ho.1.length_eq, List.length_append]
      omega
end
end Sj
namespace Sj
open PySem L2 Sup StK Own Shw Exg
open NdefX (NF NScope ncx envF startF nscope_by)
open C8 (pss_cut tCut)
/-! _law_legs, _law_odd (k03, k05, ..) -/
/-- what is no name of anything -/
def oddF : List V := [.non, .int 0, .bl true, .str "", .str "A", .str "nobody", .str "nothing", .int (10 ^ 30), .str "a b"]
inductive OddX (H : Hp) (p : Addr) : V → Prop
  | flat {x : V} : x ∈ oddF → OddX H p x
  | tup {t : Addr} : H t = some (.tup [.str "a"]) → OddX H p (.ref t)
  | lst {l : Addr} : H l = some (.lst [.str "a"]) → l ≠ p → sysModules ≠ l → OddX H p (.ref l)
  | dic {q : Addr} : H q = some (.dK []) → OddX H p (.ref q)
theorem OddX.same {H H' : Hp} {p : Addr} {x : V} (h : OddX H p x) (s : Same H H') : OddX H' p x := by
  cases h with
  | flat h => exact .flat h
  | tup h => exact .tup (s _ _ h)
  | lst h n m => exact .lst (s _ _ h) n m
  | dic h => exact .dic (s _ _ h)
theorem OddX.but {H H' : Hp} {p l : Addr} {cs : List Int} {n : Nat} {x : V} (h : OddX H p x) (hP : Pen H p l cs n) (s : But H H' p) : OddX H' p x := by
  cases h with
  | flat h => exact .flat h
  | tup h => exact .tup (s.keep hP h fun ys z => by cases z)
  | lst h n m => exact .lst (s _ _ n h) n m
  | dic h => exact .dic (s.keep hP h fun ys z => by cases z)
theorem smalls_of {d : PyData} (h : (PyData.showable d && decide (d.depth ≤ 60) && decide (d.shown.length ≤ 1000)) = true) : Smalls d := by
  rw [Bool.and_eq_true, Bool.and_eq_true, decide_eq_true_eq, decide_eq_true_eq] at h
  exact ⟨⟨h.1.1, h.1.2, Nat.le_trans h.2 (by decide)⟩, h.2⟩
theorem OddX.data {K : PySem.W.Frag} {H : Hp} {p : Addr} {x : V} (h : OddX H p x) : ∃ d, Dq K H x d ∧ Smalls d := by
  cases h with
  | flat h =>
    unfold oddF at h
    simp only [List.mem_cons, List.not_mem_nil, or_false] at h
    rcases h with rfl | rfl | rfl | rfl | rfl | rfl | rfl | rfl | rfl
    · exact ⟨_, .non, smalls_of (by decide +kernel)⟩
    · exact ⟨_, .int _, smalls_of (by decide +kernel)⟩
    · exact ⟨_, .bl _, smalls_of (by decide +kernel)⟩
    · exact ⟨_, .str _, smalls_of (by decide +kernel)⟩
    · exact ⟨_, .str _, smalls_of (by decide +kernel)⟩
    · exact ⟨_, .str _, smalls_of (by decide +kernel)⟩
    · exact ⟨_, .str _, smalls_of (by decide +kernel)⟩
    · exact ⟨_, .int _, smalls_of (by decide +kernel)⟩
    · exact ⟨_, .str _, smalls_of (by decide +kernel)⟩
  | tup h => exact ⟨_, .tup (SqT.of h) (.cons (.str _) .nil), smalls_of (by decide +kernel)⟩
  | lst h n m => exact ⟨_, .lst m (SqL.of h) (.cons (.str _) .nil), smalls_of (by decide +kernel)⟩
  | dic h => exact ⟨_, .dic (.inl h), smalls_of (by decide +kernel)⟩
end Sj
/-! repr of data without dicts, where nothing is being shown. -/
namespace ShN
open PySem PySem.Spec PyProof.Rows L2
structure FitN (d : PyData) : Prop where
  sh : PyData.showable d = true
  dp : d.depth ≤ 60
  sz : d.shown.length ≤ sizeLine
  nd : d.hasDict = false
def rShN (K : PySem.W.Frag) : List V → Hp → VK → Prop := fun xs H Q => ∃ x d, xs = [x] ∧ Dp K H x d ∧ FitN d ∧ Q (.str d.shown) H
theorem call_shN {X : Cx} (hg : X.A.guards = some []) (hu : X.A.units + 64 < cLine) : CallR X (.builtin "repr") (rShN X.K) := by
  intro pins s σ H xs us Q I r h
  obtain ⟨x, d, rfl, hd, ft, q⟩ := h
  obtain ⟨u, rfl, ru⟩ : ∃ u, us = [u] ∧ RelV x u := by
    cases r with
    | cons a r =>
      cases r
      exact ⟨_, rfl, a⟩
  obtain ⟨as, rd⟩ := Dp.reads I d x u hd ru
  cases hd with
  | non => cases ru; exact PySem.P.repr_of_none ⟨.str _, H, I.tok _, ⟨_, rfl⟩, q⟩
  | bl b => cases ru; exact PySem.P.repr_of_bool ⟨.str _, H, I.tok _, ⟨_, rfl⟩, q⟩
  | int i => obtain ⟨t, rfl⟩ := ru; exact PySem.P.repr_of_int (of_decide_eq_true ft.sh) ⟨.str _, H, I.tok _, ⟨_, rfl⟩, q⟩
  | str y => obtain ⟨t, rfl⟩ := ru; exact PySem.P.repr_of_str ⟨.str _, H, I.tok _, ⟨_, rfl⟩, q⟩ ft.sz
  | lst q1 q2 => cases ru; exact PySem.repr_of_reads' rd ft.sh (PyData.noDict_hsm ft.nd) hg (by have := ft.dp; omega) (fun _ _ e => e) (fun h' u tk hk => ⟨.str _, H, I.kept (t' := tk) hk, ⟨_, rfl⟩, q⟩) ft.sz
  | tup q1 q2 => cases ru; exact PySem.repr_of_reads' rd ft.sh (PyData.noDict_hsm ft.nd) hg (by have := ft.dp; omega) (fun _ _ e => e) (fun h' u tk hk => ⟨.str _, H, I.kept (t' := tk) hk, ⟨_, rfl⟩, q⟩) ft.sz
end ShN
namespace Sj
open PySem L2 Sup
/-! data that can be shown, by its parts -/
structure Sm (k n : Nat) (d : PyData) : Prop where
  sh : PyData.showable d = true
  ls : PyData.leavesShort 9 d = true
  nd : d.hasDict = false
  dp : d.depth ≤ k
  bk : d.bulk ≤ n
theorem Sm.mono {k n k' n' : Nat} {d : PyData} (h : Sm k n d) (hk : k ≤ k') (hn : n ≤ n') : Sm k' n' d := ⟨h.sh, h.ls, h.nd, Nat.le_trans h.dp hk, Nat.le_trans h.bk hn⟩
structure SmA (k n : Nat) (ds : List PyData) : Prop where
  sh : PyData.showableAll ds = true
  ls : PyData.leavesShortAll 9 ds = true
  nd : PyData.hasDictAll ds = false
  dp : PyData.depthAll ds ≤ k
  bk : PyData.bulkAll ds ≤ n
theorem SmA.nil {k : Nat} : SmA k 0 [] := ⟨rfl, rfl, rfl, Nat.zero_le _, Nat.le_refl _⟩
theorem SmA.cons {k n m : Nat} {d : PyData} {ds : List PyData} (h : Sm k n d) (t : SmA k m ds) : SmA k (n + 1 + m) (d :: ds) :=
  ⟨Bool.and_eq_true_iff.mpr ⟨h.sh, t.sh⟩, Bool.and_eq_true_iff.mpr ⟨h.ls, t.ls⟩, Bool.or_eq_false_iff.mpr ⟨h.nd, t.nd⟩, Nat.max_le.mpr ⟨h.dp, t.dp⟩, by
    show d.bulk + 1 + PyData.bulkAll ds ≤ _
    have := h.bk
    have := t.bk
    omega⟩
theorem SmA.all {k n : Nat} : ∀ {ds : List PyData}, (∀ d ∈ ds, Sm k n d) → SmA k (ds.length * (n + 1)) ds
  | [], _ => ⟨rfl, rfl, rfl, Nat.zero_le _, Nat.zero_le _⟩
  | d :: ds, h => by
    have t := SmA.cons (h d List.mem_cons_self) (SmA.all (k := k) (n := n) (ds := ds) fun x hx => h x (List.mem_cons_of_mem _ hx))
    refine ⟨t.sh, t.ls, t.nd, t.dp, Nat.le_trans t.bk ?_⟩
    rw [List.length_cons, Nat.succ_mul]
    omega
theorem Sm.tup {k n : Nat} {ds : List PyData} (h : SmA k n ds) : Sm (k + 1) n (.tuple ds) := ⟨h.sh, h.ls, h.nd, Nat.succ_le_succ h.dp, h.bk⟩
theorem Sm.lst {k n : Nat} {ds : List PyData} (h : SmA k n ds) : Sm (k + 1) n (.list ds) := ⟨h.sh, h.ls, h.nd, Nat.succ_le_succ h.dp, h.bk⟩
theorem Sm.bool {k n : Nat} (b : Bool) : Sm k n (.bool b) := ⟨rfl, rfl, rfl, Nat.zero_le _, Nat.zero_le _⟩
theorem Sm.top {k n : Nat} {t : Int} (h1 : 1 ≤ t) (h3 : t ≤ 3) : Sm k n (.int t) := by
  obtain rfl | rfl | rfl : t = 1 ∨ t = 2 ∨ t = 3 := by omega
  all_goals exact ⟨by decide +kernel, by decide +kernel, by decide +kernel, Nat.zero_le _, Nat.zero_le _⟩
/-- a short name -/
def shortZ (z : Str) : Bool := PyData.showable (.str z) && PyData.leavesShort 9 (.str z) && decide (PyData.bulk (.str z) ≤ 8)
theorem Sm.str {k : Nat} {z : Str} (h : shortZ z = true) : Sm k 8 (.str z) := by
  unfold shortZ at h
  rw [Bool.and_eq_true, Bool.and_eq_true, decide_eq_true_eq] at h
  exact ⟨h.1.1, h.1.2, rfl, Nat.zero_le _, h.2⟩
/-- a tuple of short names -/
theorem Sm.names {zs : List Str} (h : ∀ z ∈ zs, shortZ z = true) (hl : zs.length ≤ 50) : Sm 1 450 (.tuple (zs.map PyData.str)) := by
  have a := SmA.all (k := 0) (n := 8) (ds := zs.map PyData.str) fun d hd => by
    obtain ⟨z, hz, rfl⟩ := List.mem_map.mp hd
    exact Sm.str (h z hz)
  rw [List.length_map] at a
  exact (Sm.tup a).mono (Nat.le_refl _) (by omega)
end Sj
/-! C(), C.m(k = v, ..) by a promise with keywords; lists of the same things under != -/
namespace StK
open PySem PySem.Spec PyProof PyProof.Rows L2
section
variable {X : Cx} {CX : CXT} {k n i : Nat} {f C : Addr} {ks : List Str} {sp : List V → List V → Hp → VK → XK → Prop} {E : XK} {x m : Str} {p pos sp_ apos : Pos} {e o : Expr} {es : List Expr} {kws : List Keyword} {te ta : TE} {t tk : TA} {mc : Value} {q g : Addr}
/-- C(k = v, ..) -/
theorem pe_makeS0 (M : Mk X.K C f) (F : FnK X.prog X.w X.K X.mg X.base CX k f ks sp) (hr : Room (k + 1) X.A) (hg : Gl X x) (hm : X.mg x = some (.ref C)) (hx : Passes CX X E) (hkw : PK X kws tk)
    (hall : (backToKw pos (keywordEach kws X.env)).all (·.1.isSome) = true := by rfl) (hks : (backToKw pos (keywordEach kws X.env)).filterMap (·.1) = ks := by rfl) (hdb : (x == ("__debug__" : Str)) = false := by decide)
    (hpl : ((backTo pos (starEach [] X.env)).any (·.1) || (backToKw pos (keywordEach kws X.env)).any (·.1.isNone)) = false := by rfl) :
    PE X (.Call (.Name x p) [] kws pos) (tMakeS C ks.length sp E tNil tk) := by
  refine ⟨fun pins s σ H Q I h => ?_⟩
  refine wpAny_Call_Name_kw (ld_glob I hg hm ?_ hdb)
  refine PySem.W.callWith_KW0 (h₀ := X.base) I.ok.mod.kin M.kp hall ?_ hpl
  refine thn (hkw.run pos pins s σ H _ I h) fun ws s2 ⟨zs, H2, I2, rz, l2, q2⟩ => ⟨I2.kIn, ?_⟩
  rw [hks]
  exact run_makeK (us := []) (vs := []) M F hr hx I2 .nil rz l2 q2
end
end StK
/-! C(*xs, e, k = v) -/
namespace StK
open PySem PySem.Spec PyProof PyProof.Rows L2
end StK
/-! o + x, o - x by an operator of o's own class -/
namespace Own
open PySem PySem.Spec PySem.W PyProof.Rows L2 Sup Grd
end Own
/-! def f(a, .., **d), called with keywords; c(e, .., k = v), c a name that holds a class -/
namespace StK
open PySem PySem.Spec PyProof.Rows L2
open StX
section
variable {prog : Program} {w : World} {A : Around} {E : Value → Shared → Prop} {d : Addr}
open PySem.W (dictOf kwEs putL)
theorem kd_nsSet {s : Shared} {es : List DictEntry} {n : Nat} {k : Str} {v : Value} {Q : Unit → Shared → Prop} (D : s.heap.get? d = some (dictOf es n))
    (hs : ∀ e ∈ es, e.key.isStr k = false) (hr : ∀ e ∈ es, e.refKey = false)
    (h : ∀ h' : Heap, h'.get? d = some (dictOf (es ++ [⟨PyData.keyHash w.params k, .str k s.toks, v⟩]) (n + 1)) → Heap.SameBut d s.heap h' → Q () { s with heap := h', toks := s.toks + 1 }) :
    wpAny (model prog w) A (nsSet d k v) Q E s := by
  have e1 : es.any (·.key.isStr k) = false := by
    cases q : es.any (·.key.isStr k) with
    | false => rfl
    | true => obtain ⟨e, he, z⟩ := List.any_eq_true.mp q; rw [hs e he] at z; cases z
  have e2 : es.any (·.refKey) = false := by
    cases q : es.any (·.refKey) with
    | false => rfl
    | true => obtain ⟨e, he, z⟩ := List.any_eq_true.mp q; rw [hr e he] at z; cases z
  have e : Obj.putName k (PyData.keyHash w.params k) (.str k s.toks) v (dictOf es n) = dictOf (es ++ [⟨PyData.keyHash w.params k, .str k s.toks, v⟩]) (n + 1) := by
    rw [PySem.W.putName_dict, PySem.W.putL_new hs]
    show dictOf _ (if es.any (·.key.isStr k) then n else n + 1) = _
    rw [e1, if_neg Bool.false_ne_true]
  have c : aRefKeyMayBeTheName k es.toArray = false := by
    rw [aRefKeyMayBeTheName_at, ← Array.any_toList, ← Array.any_toList]
    show (!es.any (·.key.isStr k) && es.any (·.refKey)) = false
    rw [e2, Bool.and_false]
  unfold nsSet
  refine wpAny_bind (wpAny_bind (wpAny_askSetting (wpAny_pure (wpAny_bind (wpAny_mkText (wpAny_bind (wpAny_loadPart D ?_)))))))
  dsimp only
  rw [c]
  refine wpAny_updatePart D (h _ ?_ (Heap.SameBut.update _ _ _))
  have e3 : (s.heap.update d (Obj.putName k (PyData.keyHash w.params k) (.str k s.toks) v)).get? d = some (Obj.putName k (PyData.keyHash w.params k) (.str k s.toks) v (dictOf es n)) := Heap.get?_update_self _ D (by rw [e]; rfl)
  rw [e] at e3
  exact e3
theorem kd_fill {Q : PUnit → Shared → Prop} : ∀ (ex : List (Str × Value)) (s : Shared) (es : List DictEntry) (n : Nat), s.heap.get? d = some (dictOf es n) →
    (∀ e ∈ es, ∀ x ∈ ex, e.key.isStr x.1 = false) → (∀ e ∈ es, e.refKey = false) → (ex.map (·.1)).Nodup →
    (∀ h' : Heap, h'.get? d = some (dictOf (es ++ kwEs w.params s.toks ex) (n + ex.length)) → Heap.SameBut d s.heap h' → Q ⟨⟩ { s with heap := h', toks := s.toks + ex.length }) →
    wpAny (model prog w) A (forIn ex PUnit.unit fun x _ => (nsSet d x.1 x.2 >>= fun _ => pure (ForInStep.yield PUnit.unit))) Q E s
  | [], s, es, n, D, _, _, _, h => by
    rw [List.forIn_nil]
    refine wpAny_pure (h s.heap ?_ (Heap.SameBut.refl _ _))
    show s.heap.get? d = some (dictOf (es ++ []) n)
    rw [List.append_nil]
    exact D
  | x :: r, s, es, n, D, hs, hr, hn, h => by
    obtain ⟨hn1, hn2⟩ := List.nodup_cons.mp (show (x.1 :: r.map (·.1)).Nodup from hn)
    rw [List.forIn_cons]
    refine wpAny_bind (wpAny_bind (kd_nsSet D (fun e he => hs e he x (.head _)) hr fun h' D' b' => wpAny_pure ?_))
    show wpAny (model prog w) A (forIn r PUnit.unit fun x _ => (nsSet d x.1 x.2 >>= fun _ => pure (ForInStep.yield PUnit.unit))) Q E { s with heap := h', toks := s.toks + 1 }
    refine kd_fill r { s with heap := h', toks := s.toks + 1 } _ _ D' (fun e he y hy => ?_) (fun e he => ?_) hn2 fun h'' D'' b'' => ?_
    · rcases List.mem_append.mp he with he | he
      · exact hs e he y (.tail _ hy)
      · obtain rfl := List.mem_singleton.mp he
        show (x.1 == y.1) = false
        exact beq_eq_false_iff_ne.mpr fun q => hn1 (by rw [q]; exact List.mem_map_of_mem hy)
    · rcases List.mem_append.mp he with he | he
      · exact hr e he
      · obtain rfl := List.mem_singleton.mp he
        rfl
    · have t1 : s.toks + 1 + r.length = s.toks + (r.length + 1) := by omega
      have t2 : n + 1 + r.length = n + (r.length + 1) := by omega
      show Q ⟨⟩ { s with heap := h'', toks := s.toks + 1 + r.length }
      rw [t1]
      refine h h'' ?_ (b'.trans b'')
      rw [t2, List.append_assoc] at D''
      exact D''
def mixRow (x : Str × Value) : Key × Value := (Sum.inr x.1, x.2)
theorem kd_pairs : ∀ (ex : List (Str × Value)) (t : Tok), Pairs (mixKind prog w) (kwEs w.params t ex) (ex.map mixRow)
  | [], _ => Pairs.nil
  | x :: r, t => Pairs.cons (keyIs_str x.1 t) rfl (kd_pairs r (t + 1))
theorem kd_dict {h : Heap} {ex : List (Str × Value)} {t : Tok} {n : Nat} (hn : (ex.map (·.1)).Nodup) (e : h.get? d = some (dictOf (kwEs w.params t ex) n)) : h.DictOf (mixKind prog w) d (ex.map mixRow) :=
  ⟨_, (kwEs w.params t ex).toArray, n, e, ⟨rfl, rfl, rfl⟩, rfl, fun e he => by
    obtain ⟨k, u, hk, hh⟩ := PySem.W.kwEs_key ex t e (List.mem_toArray.mp he)
    exact ⟨Sum.inr k, by rw [hk]; exact keyIs_str k u, hh.trans rfl⟩, kd_pairs ex t, by
    rw [List.map_map]
    have e2 : (((fun x : Key × Value => x.1) ∘ mixRow) : Str × Value → Key) = (fun z : Str => (Sum.inr z : Key)) ∘ fun x : Str × Value => x.1 := rfl
    rw [e2, ← List.map_map]
    exact List.Pairwise.map _ (fun a b ne z => ne (Sum.inr.inj z)) hn⟩
end
/-- the rows of the dict that the keywords make -/
def kwRows (ks : List Str) (zs : List V) : List (Key × V) := (ks.zip zs).map fun p => (Sum.inr p.1, p.2)
theorem kwRows_kv : ∀ {ks : List Str} {zs : List V} {ws : List Value}, Vals zs ws → KV (kwRows ks zs) ((ks.zip ws).map mixRow)
  | [], _, _, _ => .nil
  | _ :: _, [], _, .nil => .nil
  | k :: ks, z :: zs, _, .cons r t => .cons ⟨rfl, r⟩ (kwRows_kv (ks := ks) t)
section
variable {P : Program} {w : World} {K : PySem.W.Frag} {mg : Str → Option Value} {base : Heap} {A : Around} {outer : List Env} {s : Shared} {H : Hp}
/-- a new object laid and tracked ahead of a def's body, in some steps -/
theorem env0_laidN {h' : Heap} {tk : Tok} {u : HO} (e0 : Env0 P w K mg base A outer s H) (kp : ∀ b x, s.heap.get? b = some x → h'.get? b = some x) (sz : s.heap.objs.size ≤ h'.objs.size) (new : ObjOk P w (upd H s.heap.objs.size u) h' s.heap.objs.size u) :
    Env0 P w K mg base A outer { s with heap := h', toks := tk } (upd H s.heap.objs.size u) := by
  refine ⟨e0.frames, e0.mod, fun b x e => ⟨kp b x (e0.bs b x e).1, ?_⟩, Nat.le_trans e0.bsz sz, Heap.FunFrames.of_keeps (fun b x e _ => ⟨x, kp b x e, rfl⟩) e0.funs, fun b hb => ?_, e0.hok.laid kp (Nat.le_refl _) new, e0.bare⟩
  · rw [upd_ne (Nat.ne_of_lt (Heap.lt_size (e0.bs b x e).1))]
    exact (e0.bs b x e).2
  · obtain ⟨_, x, hx, _⟩ := e0.funs.mem hb
    rw [upd_ne (Nat.ne_of_lt (Heap.lt_size hx))]
    exact e0.frf b hb
end
/-- what a def with **d is promised of: the values, a new dict of the keywords -/
def spKw (n : Nat) (ks : List Str) (sp : Sp) : List V → List V → Hp → VK → XK → Prop := fun vs zs H Q E => vs.length = n ∧ ∀ p, H p = Option.none → sp (vs ++ [V.ref p]) (upd H p (.dK (kwRows ks zs))) Q E
section
variable {CX : CXT} {P : Program} {w : World} {K : PySem.W.Frag} {mg : Str → Option Value} {base : Heap} {k : Nat} {f : Addr} {x qual : Str} {st : Stmt} {fd : FuncData} {N ps : List Str} {sp : Sp}
/-- def f(a, .., **d) called with the keywords ks, none of them a parameter -/
theorem fn_kwD {pd : Str} (F : Fun K x qual st f fd) (S : FnScope N (ps ++ [pd]) (defScope st)) (hCX : CXUp CX) (ks : List Str) (hks : ks.Nodup) (hkl : ks.length ≤ 1000)
    (hb : ∀ (kV doc pm : Value) (an : Option Addr) (cdv ct : Value) (us ws : List Value), us.length = ps.length → ws.length = ks.length →
      bindArgs (PySem.W.fnOf x qual (defArgs st) (defBody st) (defScope st) .none kV doc pm an cdv ct) ⟨us, ks.zip ws⟩ =
        ((alloc ({ cls := .type "dict", data := .dict #[] } : Obj) : Sem Addr) >>= fun d => (forIn (ks.zip ws) PUnit.unit fun x _ => (nsSet d x.1 x.2 >>= fun _ => pure (ForInStep.yield PUnit.unit))) >>= fun _ => pure (ps.zip us ++ [(pd, Value.ref d)])))
    (hbody : ∀ (cdv : Value) (A : Around) (outer : List Env) (s : Shared) (H : Hp) (vs : List V) (Q : VK) (E : XK), Room k (A.deeper (envOfC qual (defScope st) s.heap.objs.size f cdv)) → sp vs H Q E →
      ∃ t, PSs (cxOf CX P w K mg base N qual (defScope st) f cdv A outer s H E) (defBody st) t ∧ t { nx := fun _ H' => Q .non H', rt := Q } (start N vs) H) :
    FnK P w K mg base CX (k + 1) f ks (spKw ps.length ks sp) := by
  obtain ⟨oc, od, kV, doc, pm, an, cdv, ct, osl, rfl, lk, hcd⟩ := F.ex
  intro A outer s H us ws vs zs Q E hr e0 r rz hzl hsp
  obtain ⟨hvl, hsp⟩ := hsp
  have hn : H s.heap.objs.size = Option.none := e0.hok.fresh (Nat.le_refl _)
  have hl1 : us.length = ps.length := by rw [← r.length]; exact hvl
  have hl2 : ws.length = ks.length := by rw [← rz.length]; exact hzl
  refine run_bnd lk hcd S hr e0 (G := fun xs H2 => ∃ p, H p = Option.none ∧ xs = vs ++ [V.ref p] ∧ H2 = upd H p (.dK (kwRows ks zs))) (fun A' Ex Q' h => ?_) fun s2 H2 xs ⟨p, hp, ex, eH⟩ hr' => ?_
  · rw [hb kV doc pm an cdv ct us ws hl1 hl2]
    refine wpAny_bind (wpAny_alloc ?_)
    have hD : (s.heap.push ({ cls := .type "dict", data := .dict #[] } : Obj)).get? s.heap.objs.size = some (PySem.W.dictOf [] 0) := Heap.get?_push_size _ rfl
    have hnd : ((ks.zip ws).map (·.1)).Nodup := by
      rw [List.map_fst_zip (by rw [hl2]; exact Nat.le_refl _)]
      exact hks
    refine wpAny_bind (kd_fill (ks.zip ws) _ [] 0 hD (fun _ he => nomatch he) (fun _ he => nomatch he) hnd fun h' D' b' => wpAny_pure ?_)
    have kp : ∀ b x, s.heap.get? b = some x → h'.get? b = some x := fun b x e => by
      rw [b'.2 b (Nat.ne_of_lt (Heap.lt_size e))]
      exact Heap.get?_push_of_some _ e
    have sz : s.heap.objs.size ≤ h'.objs.size := by
      rw [b'.1]
      show _ ≤ (s.heap.push _).objs.size
      rw [Heap.size_push]
      exact Nat.le_succ _
    have rows : (kwRows ks zs).length ≤ 1000 := by
      unfold kwRows
      rw [List.length_map, List.length_zip]
      exact Nat.le_trans (Nat.min_le_left _ _) hkl
    have big := env0_big e0
    have new : ObjOk P w (upd H s.heap.objs.size (.dK (kwRows ks zs))) h' s.heap.objs.size (.dK (kwRows ks zs)) :=
      ⟨Nat.le_trans rows (by decide), beq_eq_false_iff_ne.mpr fun z => by rw [z] at big; exact Nat.lt_irrefl _ big, _, kwRows_kv rz, kd_dict hnd (by rw [List.nil_append] at D'; exact D')⟩
    have un : Un (frs outer) [] H (upd H s.heap.objs.size (.dK (kwRows ks zs))) s.heap h' := Un.laid kp (Nat.le_refl _) hn
    have z := h _ _ (vs ++ [V.ref s.heap.objs.size]) (us ++ [Value.ref s.heap.objs.size]) (env0_laidN (tk := s.toks + (ks.zip ws).length) e0 kp sz new) un rfl (fun e s' => hCX outer s H _ _ E e s' un kp rfl) (r.append (.cons rfl .nil))
      (by rw [List.length_append, List.length_append, hvl] <;> rfl) ⟨_, hn, rfl, rfl⟩
    rw [List.zip_append hl1.symm] at z
    exact z
  · subst ex eH
    exact hbody cdv A outer s2 _ _ Q E hr' (hsp p hp)
end
section
variable {X : Cx} {CX : CXT} {k n i : Nat} {f C : Addr} {ks : List Str} {sp : List V → List V → Hp → VK → XK → Prop} {E : XK} {x m : Str} {p pos sp_ apos : Pos} {e o : Expr} {es : List Expr} {kws : List Keyword} {te ta : TE} {t tk : TA} {mc : Value} {q g : Addr}
/-- c(e, .., k = v, ..), c a name whose value is the class at C -/
def tMakeC (C : Addr) (m : Nat) (sp : List V → List V → Hp → VK → XK → Prop) (E : XK) (tf : TE) (t tk : TA) : TE := fun σ H Q => tf σ H fun c H0 => c = .ref C ∧ t σ H0 fun vs H1 => tk σ H1 fun zs H2 => zs.length = m ∧ spMk C sp E vs zs H2 Q
theorem pe_makeC {tf : TE} (M : Mk X.K C f) (F : FnK X.prog X.w X.K X.mg X.base CX k f ks sp) (hr : Room (k + 1) X.A) (hx : Passes CX X E) (hf : PE X (.Name x p) tf) (ha : PA X (e :: es) t) (hkw : PK X kws tk)
    (hall : (backToKw pos (keywordEach kws X.env)).all (·.1.isSome) = true := by rfl) (hks : (backToKw pos (keywordEach kws X.env)).filterMap (·.1) = ks := by rfl)
    (he : starEach (e :: es) X.env = (false, eval e X.env) :: starEach es X.env := by rfl) (hpl : ((backTo pos (starEach (e :: es) X.env)).any (·.1) || (backToKw pos (keywordEach kws X.env)).any (·.1.isNone)) = false := by rfl) :
    PE X (.Call (.Name x p) (e :: es) kws pos) (tMakeC C ks.length sp E tf t tk) := by
  refine ⟨fun pins s σ H Q I h => ?_⟩
  refine wpAny_Call_Name_kw (thn (hf.run pins s σ H _ I h) fun u s1 ⟨c, H1, I1, rc, ec, q1⟩ => ?_)
  subst ec
  obtain rfl : u = Value.ref C := rc
  refine PySem.W.callWith_KW (h₀ := X.base) I.ok.mod.kin M.kp hall (thn (ha.run pos pins s1 σ H1 _ I1 q1) fun us s1 ⟨vs, H1, I1, r, q⟩ => ?_) hpl he
  refine thn (hkw.run pos pins s1 σ H1 _ I1 q) fun ws s2 ⟨zs, H2, I2, rz, l2, q2⟩ => ⟨I2.kIn, ?_⟩
  rw [hks]
  exact run_makeK M F hr hx I2 r rz l2 q2
end
end StK
/-! own methods by a promise that asks nothing of what is being shown -/
namespace Own
open PySem PySem.Spec PyProof.Rows L2 Sup Grd
structure MetN (P : Program) (w : World) (K : PySem.W.Frag) (mg : Str → Option Value) (base : Heap) (CX : CXT) (n : Nat) (C : Addr) (name : Str) (ps : List Str) (sp : Sp) : Prop where
  ex : ∃ (f : Addr) (fd : FuncData), PySem.W.findIn K (.ref C) name = some (some (.ref f)) ∧ PySem.W.isFn K (.ref f) = true ∧ PySem.W.fnIn K f = true ∧ FnOk P w K mg base CX n f fd ps sp ∧ Binds K fd ps []
section
variable {X : Cx} {CX : CXT} {pins : List (Addr × Obj)} {σ : L2.St} {H : Hp} {s : Shared} {k : Nat} {C f : Addr} {fd : FuncData} {ps : List Str} {sp : Sp} {E : XK}
theorem run_atN {A : Around} {Q : VK} {us : List Value} {vs : List V} {E' : Value → Shared → Prop} (F : FnOk X.prog X.w X.K X.mg X.base CX k f fd ps sp) (hr : Room k A) (hb : Binds X.K fd ps []) (e0 : Env0 X.prog X.w X.K X.mg X.base A X.stack s H)
    (hx : ∀ e s', CX X.stack H s E e s' → E' e s') (I : Inv X pins σ H s) (r : Vals vs us) (h : sp vs H Q E) : wpAny (model X.prog X.w) A (call (.ref f) us) (EP X pins σ Q) E' s := by
  have hl : (us ++ []).length = ps.length := by rw [List.append_nil, ← r.length]; exact F.len _ _ _ _ h
  have hB := hb s us I.kIn hl
  rw [List.append_nil] at hB
  refine wpAny_call (codeAny_mono (F.run A X.stack s H ⟨us, []⟩ us vs Q E hr e0 hB r h) fun res s' hq => ?_)
  match res, hq with
  | .error e, hq => exact hx e s' hq
  | .ok (.ret u), hq => exact I.after hq
theorem op_inN (M : MetN X.prog X.w X.K X.mg X.base CX0 k C "__contains__" ps sp) (hr : Room k X.A) : OpR X (compareOp .In) (rInO C false sp) := by
  obtain ⟨f, fd, h1, h2, _, F, hb⟩ := M
  intro pins s σ H x y v u Q I rx ry h
  obtain ⟨a, dx, fs, rfl, ha, h⟩ := h
  obtain rfl : u = Value.ref a := ry
  obtain ⟨mA, O, _⟩ := ins_get I.hok ha
  obtain ⟨od, J, _⟩ := O.look
  obtain ⟨m, Fr⟩ := I.fr
  refine PySem.W.in_K Fr I.mod.kin J h1 h2 (wpAny_mono (run_atN (vs := [.ref a, x]) F hr hb I.env0 (E' := X.xe) (fun e s' z => False.elim z) I (.cons rfl (.cons rx .nil)) h) (fun v s1 ⟨z, H1, I1, rv, b, ez, q⟩ => ?_) fun _ _ z => z)
  subst ez
  obtain rfl : v = Value.bool b := rv
  exact wpAny_truthy_bool ⟨.bl b, H1, I1, rfl, q⟩
theorem op_notInN (M : MetN X.prog X.w X.K X.mg X.base CX0 k C "__contains__" ps sp) (hr : Room k X.A) : OpR X (compareOp .NotIn) (rInO C true sp) := by
  obtain ⟨f, fd, h1, h2, _, F, hb⟩ := M
  intro pins s σ H x y v u Q I rx ry h
  obtain ⟨a, dx, fs, rfl, ha, h⟩ := h
  obtain rfl : u = Value.ref a := ry
  obtain ⟨mA, O, _⟩ := ins_get I.hok ha
  obtain ⟨od, J, _⟩ := O.look
  obtain ⟨m, Fr⟩ := I.fr
  refine PySem.W.notIn_K Fr I.mod.kin J h1 h2 (wpAny_mono (run_atN (vs := [.ref a, x]) F hr hb I.env0 (E' := X.xe) (fun e s' z => False.elim z) I (.cons rfl (.cons rx .nil)) h) (fun v s1 ⟨z, H1, I1, rv, b, ez, q⟩ => ?_) fun _ _ z => z)
  subst ez
  obtain rfl : v = Value.bool b := rv
  exact wpAny_truthy_bool ⟨.bl (!b), H1, I1, rfl, q⟩
theorem pe_itN {e1 e2 : Expr} {ta tb : TE} {pos : Pos} (M : MetN X.prog X.w X.K X.mg X.base CX k C "__getitem__" ps sp) (hr : Room (k + 1) X.A) (hx : Passes CX X E) (ha : PE X e1 ta) (hb' : PE X e2 tb)
    (hsl : ∀ v u, subscripted e2 true v u = runValue (.builtin "lifetime.subscript" ⟨[v, u], []⟩) := by intros; with_unfolding_all rfl) : PE X (.Subscript e1 e2 pos) (tItO C sp E ta tb) := by
  obtain ⟨f, fd, h1, h2, h3, F, hb⟩ := M
  refine ⟨fun pins s σ H Q I h => ?_⟩
  refine Subscript_ (binT ha hb' I (R := fun y x H2 => ∃ a dx fs, y = .ref a ∧ H2 a = some (.ins C dx fs) ∧ sp [.ref a, x] H2 Q E) h fun v u s2 y x H2 I2 ry rx ⟨a, dx, fs, ey, hz, q⟩ => ?_)
  subst ey
  obtain rfl : v = Value.ref a := ry
  obtain ⟨mA, O, _⟩ := ins_get I2.hok hz
  obtain ⟨od, J, _⟩ := O.look
  obtain ⟨m, Fr⟩ := I2.fr
  exact PySem.W.sub_K Fr I2.mod.kin J h1 h3 h2 (run_atN (vs := [.ref a, x]) F hr.in1 hb I2.env0.in1 (E' := X.xe) (fun e s' z => hx pins σ H2 s2 e s' I2 z) I2 (.cons rfl (.cons rx .nil)) q) (hsl _ _)
end
end Own
namespace Sj
open PySem L2 Sup StK Own Shw Exg Grd
open NdefX (NF NScope ncx envF startF nscope_by)
open C8 (pss_cut tCut)
/-! k06: is_driver -/
abbrev sIsD : Stmt := top 25
theorem scIsD : FnScope ["frame", "value"] ["frame", "value"] (defScope sIsD) := ⟨rfl, rfl, rfl, by decide +kernel, rfl, by decide +kernel, by decide +kernel⟩
/-- self[at], there -/
def spFGetI (ks : Kinds) (CF : Addr) : Sp := fun vs H Q _ => ∃ a d, ∃ r : LegR, vs = [.ref a, .str r.z] ∧ FrIs ks CF H a d ∧ r ∈ d.ys ∧ Q (.ref r.a) H
def spIsD (K : PySem.W.Frag) (ks : Kinds) (CF : Addr) : Sp := fun vs H Q _ => ∃ a d x, vs = [.ref a, x] ∧ FrIs ks CF H a d ∧ ((∃ r ∈ d.ys, x = .str r.z ∧ Q (.bl (decide (r.C = ks.drv))) H) ∨ (NotLeg K H x d ∧ Q (.bl false) H))
/-- is_between, any bounds -/
def IntIs (K : PySem.W.Frag) (H : Hp) (T : V) (lo hi : Int) (b : Bool) : Prop := (∃ i : Int, T = .int i ∧ b = (decide (lo ≤ i) && decide (i ≤ hi))) ∨ ∃ (t : String) (m c : Bool), TyX K H T (.type t) ∧ kitB t "int" = some m ∧ kitB t "bool" = some c ∧ (m && !c) = false ∧ b = false
def spBetG (K : PySem.W.Frag) : Sp := fun vs H Q _ => ∃ (T : V) (lo hi : Int) (b : Bool), vs = [T, .int lo, .int hi] ∧ IntIs K H T lo hi b ∧ Q (.bl b) H
section
variable {P : Program} {w : World} {K : PySem.W.Frag} {mg : Str → Option Value} {base : Heap}
theorem ok_betG {f fI : Addr} {fd fdI : FuncData} (F : Fun K "is_between" "is_between" sBetw f fd) (FI : FnOk P w K mg base CX0 1 fI fdI ["value"] (spIsInt K)) (mI : mg "is_integer" = some (.ref fI)) (kI : PySem.W.keepIn K (.ref fI) = true) (bI : Binds K fdI ["value"] []) :
    FnOk P w K mg base CX0 2 f fd ["value", "least", "most"] (spBetG K) := by
  refine F.ok scBetw (fun vs H Q E h => ?_) (fun cdv A outer s H vs Q E hr h => ?_)
  · obtain ⟨T, lo, hi, b, rfl, _⟩ := h
    rfl
  · obtain ⟨T, lo, hi, b, rfl, ht, k⟩ := h
    refine ⟨_, pss_one (ps_ret (pe_and (pe_call FI hr rfl mI kI bI .nil pass0 (pa_cons (pv 0) pa_nil)) (pe_one (pe_chain op_le op_le (pv 1) (pv 0) (pv 2))))), ?_⟩
    rcases ht with ⟨i, rfl, rfl⟩ | ⟨t, m, c, ht, hm, hc, e, rfl⟩
    · refine ⟨_, rfl, _, _, _, _, rfl, .base (.int i), (by decide +kernel : kitB "int" "int" = some true), (by decide +kernel : kitB "int" "bool" = some false), _, rfl, ?_⟩
      refine iteT ⟨_, rfl, _, rfl, _, _, rfl, rfl, _, rfl, ?_⟩
      by_cases h1 : lo ≤ i
      · rw [decide_eq_true h1] at k ⊢
        exact iteT ⟨_, rfl, _, _, rfl, rfl, k⟩
      · rw [decide_eq_false h1] at k ⊢
        exact iteF k
    · refine ⟨_, rfl, _, _, _, _, rfl, ht, hm, hc, _, rfl, ?_⟩
      rw [e]
      exact iteF k
theorem ok_fgetI {f CF : Addr} {fd : FuncData} {ks : Kinds} (F : Fun K "__getitem__" "Frame.__getitem__" (sFr 10) f fd) (cl : Cls K CF) (nL : NoAttr K CF "_legs") (TI : MetN P w K mg base CX0 1 CF "__contains__" ["self", "x"] (spFIs K ks CF)) :
    FnOk P w K mg base CX0 2 f fd ["self", "at"] (spFGetI ks CF) := by
  have sc : FnScope ["self", "at"] ["self", "at"] (defScope (sFr 10)) := ⟨rfl, rfl, rfl, by decide +kernel, rfl, by decide +kernel, by decide +kernel⟩
  refine F.ok sc (fun vs H Q E h => ?_) (fun cdv A outer s H vs Q E hr h => ?_)
  · obtain ⟨a, d, r, rfl, _⟩ := h
    rfl
  · obtain ⟨a, d, r, rfl, hF, hr', k⟩ := h
    obtain ⟨dx, D, ea, eD, _⟩ := hF.at_
    refine ⟨_, pss_cons (ps_if (pt_cmpR (op_notInN TI hr) (pv 1) (pv 0) (by rfl)) pss_never pss_nil)
      (pss_one (ps_ret (pe_dget (hu_of hr) (pe_fld (pv 0) rfl) (pv 1) (fun _ _ => rfl)))), ?_⟩
    refine ⟨_, rfl, _, rfl, a, dx, _, rfl, ea, a, d, _, rfl, hF, .inl ⟨r.z, rfl, List.mem_map.mpr ⟨r, hr', rfl⟩, true, rfl, _, rfl, ?_⟩⟩
    refine iteF ⟨_, rfl, a, CF, dx, _, _, rfl, ea, cl, nL, frF_legs _ _ _ _, _, rfl, D, _, rfl, ?_, k⟩
    rw [← valV_rows d.ys r hF.nd hr']
    exact DGet.k (k := Sum.inr r.z) eD
structure IsDT (P : Program) (w : World) (K : PySem.W.Frag) (mg : Str → Option Value) (base : Heap) (ks : Kinds) (CF : Addr) : Prop where
  in_ : MetN P w K mg base CX0 1 CF "__contains__" ["self", "x"] (spFIs K ks CF)
  get : MetN P w K mg base CX0 2 CF "__getitem__" ["self", "at"] (spFGetI ks CF)
  dv : ∀ C, (C = ks.drv ∨ C = ks.lis) → PropN P w K mg base 1 C "drives" (spDr C (decide (C = ks.drv)))
theorem ok_isd {f CF : Addr} {fd : FuncData} {ks : Kinds} (F : Fun K "is_driver" "is_driver" sIsD f fd) (T : IsDT P w K mg base ks CF) : FnOk P w K mg base CX0 4 f fd ["frame", "value"] (spIsD K ks CF) := by
  refine F.ok scIsD (fun vs H Q E h => ?_) (fun cdv A outer s H vs Q E hr h => ?_)
  · obtain ⟨a, d, x, rfl, _⟩ := h
    rfl
  · obtain ⟨a, d, x, rfl, hF, h⟩ := h
    obtain ⟨dx, fs, ea⟩ := hF.ins
    refine ⟨_, pss_one (ps_ret (pe_and (pe_cmpR (op_inN T.in_ (hr.mono (by decide))) (pv 1) (pv 0) (by rfl)) (pe_one (pe_propS (S := fun C => C = ks.drv ∨ C = ks.lis) (spP := fun C => spDr C (decide (C = ks.drv))) (pe_itN T.get (hr.mono (by decide)) pass0 (pv 0) (pv 1)) T.dv (hr.mono (by decide)))))), ?_⟩
    rcases h with ⟨r, hr', rfl, k⟩ | ⟨hn, k⟩
    · refine ⟨_, rfl, _, rfl, a, dx, fs, rfl, ea, a, d, _, rfl, hF, .inl ⟨r.z, rfl, List.mem_map.mpr ⟨r, hr', rfl⟩, true, rfl, _, rfl, ?_⟩⟩
      obtain ⟨hc, dy, er⟩ := hF.ok r hr'
      exact iteT ⟨_, rfl, _, rfl, a, dx, fs, rfl, ea, a, d, r, rfl, hF, hr', r.a, r.C, dy, _, rfl, er, hc, r.a, r.z, rfl, ⟨dy, er⟩, k⟩
    · exact ⟨_, rfl, _, rfl, a, dx, fs, rfl, ea, a, d, x, rfl, hF, .inr ⟨hn, false, rfl, _, rfl, iteF k⟩⟩
end
end Sj
namespace Sj
open PySem L2 Sup StK Own Shw Exg Grd
open NdefX (NF NScope ncx envF startF nscope_by)
open C8 (pss_cut tCut)
/-! driver_levels (k06, ..) -/
abbrev sDL : Stmt := top 28
abbrev nDL : List Str := ["frame", "levels", "name"]
theorem scDL : FnScope nDL ["frame", "levels"] (defScope sDL) := ⟨rfl, rfl, rfl, by decide +kernel, rfl, by decide +kernel, by decide +kernel⟩
def lvRow (p : Str × Int) : Key × V := (Sum.inr p.1, .int p.2)
def lvG : List (Str × Int) → Str → Option Int
  | [], _ => none
  | p :: r, z => if p.1 = z then some p.2 else lvG r z
def lvl (gv : List (Str × Int)) (t : Int) (z : Str) : Int := (lvG gv z).getD t
theorem valV_lv : ∀ (gv : List (Str × Int)) (z : Str), valV (gv.map lvRow) (Sum.inr z) = (lvG gv z).map V.int
  | [], _ => rfl
  | p :: r, z => by
    unfold lvG
    by_cases e : p.1 = z
    · rw [if_pos e, List.map_cons, valV_pos (show (lvRow p).1 = Sum.inr z by rw [← e]; rfl)]
      rfl
    · rw [if_neg e, List.map_cons, valV_neg (fun h : (lvRow p).1 = Sum.inr z => e (Sum.inr.inj h))]
      exact valV_lv r z
theorem lvG_mem : ∀ {gv : List (Str × Int)} {z : Str} {i : Int}, lvG gv z = some i → (z, i) ∈ gv
  | p :: r, z, i, h => by
    unfold lvG at h
    by_cases e : p.1 = z
    · rw [if_pos e] at h
      rw [← e, ← Option.some.inj h]
      exact List.mem_cons_self
    · rw [if_neg e] at h
      exact List.mem_cons_of_mem _ (lvG_mem h)
theorem lvG_of : ∀ {gv : List (Str × Int)} {z : Str}, z ∈ gv.map (·.1) → ∃ i, lvG gv z = some i
  | p :: r, z, h => by
    unfold lvG
    by_cases e : p.1 = z
    · exact ⟨_, if_pos e⟩
    · rw [if_neg e]
      exact lvG_of ((List.mem_cons.mp h).resolve_left fun q => e q.symm)
/-- levels that make a word: of drivers, within 0 and top -/
def LvOk (ks : Kinds) (d : FrD) (gv : List (Str × Int)) : Prop := gv.length ≤ 60 ∧ ∀ p ∈ gv, p.1 ∈ kindZ ks true d.ys ∧ 0 ≤ p.2 ∧ p.2 ≤ d.t
theorem lvl_le {ks : Kinds} {d : FrD} {gv : List (Str × Int)} (h : LvOk ks d gv) (ht : 0 ≤ d.t) (z : Str) : 0 ≤ lvl gv d.t z ∧ lvl gv d.t z ≤ d.t := by
  unfold lvl
  cases e : lvG gv z with
  | none => exact ⟨ht, Int.le_refl _⟩
  | some i => exact ⟨(h.2 _ (lvG_mem e)).2.1, (h.2 _ (lvG_mem e)).2.2⟩
/-- the level of each driver -/
def lvAll (ks : Kinds) (d : FrD) (gv : List (Str × Int)) : List (Str × Int) := (kindZ ks true d.ys).map fun z => (z, lvl gv d.t z)
theorem kind_leg {ks : Kinds} {ys : List LegR} {z : Str} (h : z ∈ kindZ ks true ys) : ∃ r ∈ ys, r.z = z ∧ r.C = ks.drv := by
  obtain ⟨r, hr, e⟩ := List.mem_map.mp h
  obtain ⟨h1, h2⟩ := List.mem_filter.mp hr
  rw [beq_true, decide_eq_true_eq] at h2
  exact ⟨r, h1, e, h2⟩
theorem kind_nd {ks : Kinds} {b : Bool} {ys : List LegR} (h : (names ys).Nodup) : (kindZ ks b ys).Nodup := List.Nodup.sublist (List.Sublist.map _ List.filter_sublist) h
theorem kind_le (ks : Kinds) (b : Bool) (ys : List LegR) : (kindZ ks b ys).length ≤ ys.length := by
  unfold kindZ names
  rw [List.length_map]
  exact List.length_filter_le _ _
def spDL (ks : Kinds) (CF : Addr) : Sp := fun vs H Q _ => ∃ f L d gv, vs = [.ref f, .ref L] ∧ FrIs ks CF H f d ∧ H L = some (.dK (gv.map lvRow)) ∧ LvOk ks d gv ∧ ∀ D H', H D = none → H' D = some (.dK ((lvAll ks d gv).map lvRow)) → Same H H' → Q (.ref D) H'
structure DlT (P : Program) (w : World) (K : PySem.W.Frag) (mg : Str → Option Value) (base : Heap) (ks : Kinds) (CF : Addr) : Prop where
  cl : Cls K CF
  nT : NoAttr K CF "top"
  isi : mg "isinstance" = none
  dict : mg "dict" = none
  str : mg "str" = none
  all : mg "all" = none
  sorted : mg "sorted" = none
  isd : ∃ f fd, mg "is_driver" = some (.ref f) ∧ PySem.W.keepIn K (.ref f) = true ∧ Binds K fd ["frame", "value"] [] ∧ FnOk P w K mg base CX0 4 f fd ["frame", "value"] (spIsD K ks CF)
  bet : ∃ f fd, mg "is_between" = some (.ref f) ∧ PySem.W.keepIn K (.ref f) = true ∧ Binds K fd ["value", "least", "most"] [] ∧ FnOk P w K mg base CX0 2 f fd ["value", "least", "most"] (spBetG K)
  drv : PropN P w K mg base 3 CF "drivers" (spTup ks CF fun d => kindZ ks true d.ys)
def teStr2 (K : PySem.W.Frag) : TE := tCB (rIsi K) (tCons (tVar 2) (tCons (tC (.ty "str")) tNil))
def teGet2 (K : PySem.W.Frag) : TE := tDGet2 (tVar 1) (tVar 2) (tFld K (tVar 0) "top")
section
variable {P : Program} {w : World} {K : PySem.W.Frag} {mg : Str → Option Value} {base : Heap}
theorem ok_dl {f CF : Addr} {fd : FuncData} {ks : Kinds} (F : Fun K "driver_levels" "driver_levels" sDL f fd) (T : DlT P w K mg base ks CF) : FnOk P w K mg base CX0 5 f fd ["frame", "levels"] (spDL ks CF) := by
  obtain ⟨fI, fdI, mI, kI, bI, GI⟩ := T.isd
  obtain ⟨fB, fdB, mB, kB, bB, GB⟩ := T.bet
  refine F.ok scDL (fun vs H Q E h => ?_) (fun cdv A outer s H vs Q E hr h => ?_)
  · obtain ⟨a, L, d, gv, rfl, _⟩ := h
    rfl
  · obtain ⟨a, L, d, gv, rfl, hF, hL, ok, k⟩ := h
    obtain ⟨dx, DD, ea, eD, _⟩ := hF.at_
    refine ⟨_, pss_cons (ps_if (PW.pt (pw_or (pt_not (pt_val (pe_callB call_isi (by rfl) T.isi (by decide +kernel) (pa_cons (pv 1) (pa_cons (pe_bltn (by rfl) T.dict (by decide +kernel) (v := .ty "dict") rfl) pa_nil)))))
        (pw_or1 (pt_not (pt_val (pe_lock (pe_callB (cr_all rfl) (by rfl) T.all (by decide +kernel) (pa_cons
          (pe_lc (te := teStr2 K) (own := [("name", 2)]) (g := gName 2) (tt := tYes) rfl scDL.nd (pi_keys (pv 1)) (blkOk_by (N := nDL) (sc := defScope sDL) (by decide +kernel))
            (fun _ _ _ _ _ => pg_name (i := 2) scDL.nd rfl (Or.inl rfl)) (fun _ _ _ _ _ => pts_nil) (fun _ _ _ _ _ => pe_callB call_isi (by rfl) T.isi (by decide +kernel) (pa_cons (pv 2) (pa_cons (pe_bltn (by rfl) T.str (by decide +kernel) (v := .ty "str") rfl) pa_nil)))) pa_nil))))))))
        pss_never pss_nil)
      (pss_cons (ps_for PassesOwn.never rfl (pi_list (pe_callB (call_sortedD rfl) (by rfl) T.sorted (by decide +kernel) (pa_cons (pv 1) pa_nil))) (pg_name (i := 2) scDL.nd rfl (Or.inl rfl))
        (pss_one (ps_if (PW.pt (pw_or (pt_not (pt_val (pe_call GI hr rfl mI kI bI .nil pass0 (pa_cons (pv 0) (pa_cons (pv 2) pa_nil))))) (pw_or1 (pt_not (pt_val (pe_call GB (hr.mono (by decide)) rfl mB kB bB .nil pass0 (pa_cons (pe_dget (hu_of hr) (pv 1) (pv 2) (fun _ _ => rfl)) (pa_cons pe_int (pa_cons (pe_fld (pv 0) rfl) pa_nil))))))))) pss_never pss_nil)))
      (pss_one (ps_ret (pe_dc (tk := tVar 2) (tv := teGet2 K) (own := [("name", 2)]) (g := gName 2) (tt := tYes) rfl scDL.nd (pi_tup (pe_propS (S := fun C => C = CF) (spP := fun _ => spTup ks CF fun d => kindZ ks true d.ys) (pv 0) (fun C e => by rw [e]; exact T.drv) (hr.mono (by decide))))
          (blkOk_by (N := nDL) (sc := defScope sDL) (by decide +kernel))
          (fun _ _ _ _ _ => pg_name (i := 2) scDL.nd rfl (Or.inl rfl)) (fun _ _ _ _ _ => pts_nil) (fun _ _ _ _ _ => pv 2) (fun _ _ _ _ _ => pe_dget2 (hu_of hr) (pv 1) (pv 2) (pe_fld (pv 0) rfl) ⟨rfl, rfl, rfl, rfl⟩))))), ?_⟩
    have hlm : (gv.map lvRow).length = gv.length := List.length_map _
    refine ⟨_, rfl, _, _, _, _, true, rfl, .ty _, .base (.dK hL), kit_ty (by decide +kernel), _, rfl, ?_⟩
    refine iteF ⟨L, _, hL, trivial, fun od => ?_⟩
    obtain ⟨HL, eL⟩ : ∃ HL, HL = upd H L (.frz od (.dK (gv.map lvRow))) := ⟨_, rfl⟩
    rw [← eL]
    have hLL : HL L = some (.frz od (.dK (gv.map lvRow))) := by rw [eL, upd_same]
    refine ⟨_, rfl, L, od, rfl, .inl ⟨_, hLL, fun Dn hDn => ?_⟩⟩
    refine lc_it (walk_keys (d := L) (o := od) (kvs := gv.map lvRow)) (fun i H' => Same HL H' ∧ H' Dn = some (.lst ((List.replicate i true).map V.bl))) ⟨same_at hDn, upd_same⟩ (fun i H' _ q => q.1 _ _ hLL) ?_ ?_
    · rintro i x H2 H3 hi ⟨s2, d2⟩ ⟨rfl, kk, vv, hkv, rfl⟩
      rw [hlm] at hi
      have e1 : (gv.map lvRow)[i]? = some (lvRow gv[i]) := by rw [List.getElem?_map, List.getElem?_eq_getElem hi]; rfl
      rw [e1] at hkv
      obtain rfl : Sum.inr gv[i].1 = kk := congrArg Prod.fst (Option.some.inj hkv)
      refine ⟨rfl, ?_⟩
      unfold tYes
      dsimp only
      rw [if_pos rfl]
      refine ⟨_, rfl, _, _, _, _, true, rfl, .ty _, .base (.str _), kit_ty (by decide +kernel), _, d2, ?_, fun c o hc => ?_, ?_⟩
      · rw [List.length_map, List.length_replicate]
        exact Nat.lt_of_lt_of_le hi (Nat.le_trans ok.1 (by decide))
      · rw [upd_ne (ne_of_none hc hDn)]
        exact s2 _ _ hc
      · rw [upd_same, List.replicate_succ', List.map_append]
        rfl
    · rintro H2 ⟨s2, d2⟩
      refine ⟨Dn, _, rfl, SqL.of d2, s2 _ _ hLL, _, rfl, ?_⟩
      have ea0 : (List.replicate (gv.map lvRow).length true).all id = true := by
        rw [List.all_eq_true]
        intro b hb
        rw [List.eq_of_mem_replicate hb]
        rfl
      rw [ea0]
      have s02 : Same H (upd H2 L (.dK (gv.map lvRow))) := same_unlock hL (by rw [← eL]; exact s2)
      obtain ⟨H4, e4⟩ : ∃ H4, H4 = upd H2 L (.dK (gv.map lvRow)) := ⟨_, rfl⟩
      rw [← e4] at s02 ⊢
      have hks : (gv.map lvRow).map (·.1) = (gv.map (·.1)).map Sum.inr := by rw [List.map_map, List.map_map]; rfl
      refine iteF ⟨_, rfl, L, _, gv.map (·.1), rfl, .inl (s02 _ _ hL), hks, by rw [List.length_map]; exact Nat.lt_of_le_of_lt ok.1 (by decide), fun ys q hp hs hq => ?_⟩
      obtain ⟨H5, e5⟩ : ∃ H5, H5 = upd H4 q (.lst (ys.map V.str)) := ⟨_, rfl⟩
      have s45 : Same H4 H5 := by rw [e5]; exact same_at hq
      have hq5 : H5 q = some (.lst (strv ys)) := by rw [e5, upd_same]; rfl
      rw [← e5]
      have s05 := s02.trans s45
      have hL5 := s05 _ _ hL
      have ea5 := s05 _ _ ea
      have hF5 := hF.same s05
      have hyl : (strv ys).length = ys.length := List.length_map _
      refine ⟨q, rfl, ⟨_, SqL.of hq5⟩, for_list (xs := strv ys) (fun i σ H' => H' = H5 ∧ ∃ o, σ = [some (.ref a), some (.ref L), o]) ⟨rfl, _, rfl⟩ (fun i σ H' _ h => by rw [h.1]; exact SqL.of hq5) ?_ ?_⟩
      · rintro i x σ H8 hx ⟨rfl, o, rfl⟩
        have hi' : i < ys.length := by rw [← hyl]; exact (List.getElem?_eq_some_iff.mp hx).1
        have ex : (strv ys)[i]? = some (.str ys[i]) := by show (ys.map V.str)[i]? = _; rw [List.getElem?_map, List.getElem?_eq_getElem hi']; rfl
        rw [ex] at hx
        obtain rfl := Option.some.inj hx
        obtain ⟨j, hj⟩ := lvG_of (hp.mem_iff.mp (List.getElem_mem hi'))
        obtain ⟨g1, g2, g3⟩ := ok.2 _ (lvG_mem hj)
        obtain ⟨r, hr', ez, eC⟩ := kind_leg g1
        refine ⟨_, rfl, _, rfl, a, d, _, rfl, hF5, .inl ⟨r, hr', by rw [ez], _, rfl, ?_⟩⟩
        rw [decide_eq_true eC]
        have hg : DGet H8 L (.str ys[i]) (some (.int j)) := by
          have := DGet.k (k := Sum.inr ys[i]) hL5
          rw [valV_lv, hj] at this
          exact this
        refine iteF ⟨_, rfl, _, rfl, L, _, rfl, hg, _, rfl, a, CF, dx, _, _, rfl, ea5, T.cl, T.nT, frF_top _ _ _ _, .int j, 0, d.t, true, rfl, .inl ⟨j, rfl, ?_⟩, _, rfl, ?_⟩
        · rw [decide_eq_true g2, decide_eq_true g3]
          rfl
        · exact iteF ⟨rfl, _, rfl⟩
      · rintro σ H8 ⟨rfl, o, rfl⟩
        refine ⟨_, rfl, a, CF, dx, _, rfl, ea5, rfl, a, d, rfl, hF5, fun tp H6 htp hv6 s56 => ?_⟩
        refine ⟨tp, rfl, ⟨_, SqT.of hv6⟩, fun D hD => ?_⟩
        have s06 := s05.trans s56
        dsimp only at hv6
        have hnd := kind_nd (ks := ks) (b := true) hF.nd
        have hkl := Nat.le_trans (kind_le ks true d.ys) hF.le
        obtain ⟨zs, ezs⟩ : ∃ zs, zs = kindZ ks true d.ys := ⟨_, rfl⟩
        have eall : lvAll ks d gv = zs.map fun z => (z, lvl gv d.t z) := by rw [ezs]; rfl
        rw [← ezs] at hv6 hnd hkl
        have hzl : (strv zs).length = zs.length := List.length_map _
        refine SetT.dict_it (walk_tup (K := K) (a := tp) (xs := strv zs)) (fun i H' => Same H6 H' ∧ H' D = some (.dK (((zs.take i).map fun z => (z, lvl gv d.t z)).map lvRow))) ⟨same_at hD, by rw [upd_same]; rfl⟩ (fun i H' _ p => .inl (.inl (p.1 _ _ hv6))) ?_ ?_
        · rintro i x H7 H9 hi ⟨s7, d7⟩ ⟨rfl, hx1⟩
          rw [hzl] at hi
          have e1 : (strv zs)[i]? = some (.str zs[i]) := by show (zs.map V.str)[i]? = _; rw [List.getElem?_map, List.getElem?_eq_getElem hi]; rfl
          rw [e1] at hx1
          obtain rfl := Option.some.inj hx1
          refine ⟨rfl, ?_⟩
          unfold tYes
          dsimp only
          rw [if_pos rfl]
          have s07 := s06.trans s7
          refine ⟨_, rfl, _, rfl, L, rfl, .inl ⟨_, .inl (s07 _ _ hL)⟩, _, rfl, _, rfl, a, CF, dx, _, _, rfl, s07 _ _ ea, T.cl, T.nT, frF_top _ _ _ _, _, DGet.k (k := Sum.inr zs[i]) (s07 _ _ hL), ?_⟩
          have hout : valV (((zs.take i).map fun z => (z, lvl gv d.t z)).map lvRow) (Sum.inr zs[i]) = none := by
            rw [valV_lv]
            cases e : lvG ((zs.take i).map fun z => (z, lvl gv d.t z)) zs[i] with
            | none => rfl
            | some j =>
              obtain ⟨z, hz, ez⟩ := List.mem_map.mp (lvG_mem e)
              have ez : z = zs[i] := congrArg Prod.fst ez
              obtain ⟨j, hj, ej⟩ := List.getElem_of_mem hz
              rw [List.length_take] at hj
              rw [List.getElem_take, ez] at ej
              have := (List.getElem_inj hnd).mp ej
              omega
          refine ⟨_, Sum.inr zs[i], rfl, d7, ?_, ?_, ?_⟩
          · rw [List.length_map, List.length_map, List.length_take]
            exact Nat.lt_of_le_of_lt (Nat.min_le_right _ _) (Nat.lt_of_le_of_lt hkl (by decide))
          · exact fun b o e => by
              rw [upd_ne (ne_of_none e hD)]
              exact s7 _ _ e
          · rw [upd_same, putK_new _ hout, List.take_add_one, List.getElem?_eq_getElem hi, List.map_append, List.map_append, valV_lv]
            have e2 : (Option.map V.int (lvG gv zs[i])).getD (.int d.t) = .int (lvl gv d.t zs[i]) := by
              unfold lvl
              cases lvG gv zs[i] <;> rfl
            rw [e2]
            rfl
        · rintro H7 ⟨s7, d7⟩
          rw [hzl, List.take_length] at d7
          exact k D H7 (s06.free hD) (by rw [eall]; exact d7) (s06.trans s7)
end
end Sj
namespace Sj
open PySem L2 Sup StK Own Shw Exg Grd
open NdefX (NF NScope ncx envF startF nscope_by)
open C8 (pss_cut tCut)
/-! Word: __init__, of, rest, lone (k06, ..) -/
abbrev sWd (i : Nat) : Stmt := inClass (top 27) i
def wdF (f D : Addr) : List (Str × V) := putF "_levels" (.ref D) (putF "frame" (.ref f) [])
theorem wdF_put (f D D' : Addr) : putF "_levels" (.ref D') (wdF f D) = wdF f D' := by
  rfl
theorem wdF_frame (f D : Addr) : (wdF f D).lookup ("frame" : Str) = some (.ref f) := by
  unfold wdF
  rw [lookup_putF, if_neg (by decide +kernel), lookup_putF, if_pos rfl]
theorem wdF_lv (f D : Addr) : (wdF f D).lookup ("_levels" : Str) = some (.ref D) := by
  unfold wdF
  rw [lookup_putF, if_pos rfl]
/-- a word: of the frame d, by the levels gv -/
structure WdIs (ks : Kinds) (CF CW : Addr) (H : Hp) (a : Addr) (d : FrD) (gv : List (Str × Int)) : Prop where
  ex : ∃ f dx D, H a = some (.ins CW dx (wdF f D)) ∧ H D = some (.dK ((lvAll ks d gv).map lvRow)) ∧ D ≠ a ∧ FrIs ks CF H f d
  ok : LvOk ks d gv
  t1 : 1 ≤ d.t
  t3 : d.t ≤ 3
theorem WdIs.same {ks : Kinds} {CF CW : Addr} {H H' : Hp} {a : Addr} {d : FrD} {gv : List (Str × Int)} (h : WdIs ks CF CW H a d gv) (s : Same H H') : WdIs ks CF CW H' a d gv := by
  obtain ⟨f, dx, D, h1, h2, h3, h4⟩ := h.ex
  exact ⟨⟨f, dx, D, s _ _ h1, s _ _ h2, h3, h4.same s⟩, h.ok, h.t1, h.t3⟩
theorem WdIs.ins {ks : Kinds} {CF CW : Addr} {H : Hp} {a : Addr} {d : FrD} {gv : List (Str × Int)} (h : WdIs ks CF CW H a d gv) : ∃ dx fs, H a = some (.ins CW dx fs) := by
  obtain ⟨f, dx, D, h1, _⟩ := h.ex
  exact ⟨dx, _, h1⟩
def spWdI (ks : Kinds) (CF CW : Addr) : Sp := fun vs H Q _ => ∃ a dx f L d gv, vs = [.ref a, .ref f, .ref L] ∧ H a = some (.ins CW dx []) ∧ FrIs ks CF H f d ∧ H L = some (.dK (gv.map lvRow)) ∧ LvOk ks d gv ∧
  ∀ D H', H' a = some (.ins CW dx (wdF f D)) → H' D = some (.dK ((lvAll ks d gv).map lvRow)) → D ≠ a → But H H' a → Q .non H'
structure WiT6 (P : Program) (w : World) (K : PySem.W.Frag) (mg : Str → Option Value) (base : Heap) (ks : Kinds) (CF CW : Addr) : Prop where
  cl : Cls K CW
  nF : NoAttr K CW "frame"
  nL : NoAttr K CW "_levels"
  dl : ∃ f fd, mg "driver_levels" = some (.ref f) ∧ PySem.W.keepIn K (.ref f) = true ∧ Binds K fd ["frame", "levels"] [] ∧ FnOk P w K mg base CX0 5 f fd ["frame", "levels"] (spDL ks CF)
theorem scWdI : FnScope ["self", "frame", "levels"] ["self", "frame", "levels"] (defScope (sWd 0)) := ⟨rfl, rfl, rfl, by decide +kernel, rfl, by decide +kernel, by decide +kernel⟩
section
variable {P : Program} {w : World} {K : PySem.W.Frag} {mg : Str → Option Value} {base : Heap}
theorem FrIs.setIns {ks : Kinds} {CF CW : Addr} {H : Hp} {a f dx : Addr} {d : FrD} {fs gs : List (Str × V)} (h : FrIs ks CF H f d) (ha : H a = some (.ins CW dx fs)) (hc : CW ≠ CF) (hk : CW ≠ ks.drv) (hl : CW ≠ ks.lis) : FrIs ks CF (upd H a (.ins CW dx gs)) f d := by
  obtain ⟨dy, D, h1, h2, h3⟩ := h.at_
  have e1 : f ≠ a := fun z => by
    rw [z, ha] at h1
    injection Option.some.inj h1 with q
    exact hc q
  have e2 : D ≠ a := ne_of h2 ha (by intro z; cases z)
  refine ⟨⟨dy, D, by rw [upd_ne e1]; exact h1, by rw [upd_ne e2]; exact h2, h3⟩, fun r hr => ?_, h.nd, h.le, h.so⟩
  obtain ⟨c, dz, e⟩ := h.ok r hr
  have e3 : r.a ≠ a := fun z => by
    rw [z, ha] at e
    injection Option.some.inj e with q
    rcases c with c | c
    · exact hk (q.trans c)
    · exact hl (q.trans c)
  exact ⟨c, dz, by rw [upd_ne e3]; exact e⟩
theorem body_wdI {CF CW f : Addr} {ks : Kinds} (T : WiT6 P w K mg base ks CF CW) (hc : CW ≠ CF) (hk : CW ≠ ks.drv) (hl : CW ≠ ks.lis) (cdv : Value) (A : Around) (outer : List Env) (s : Shared) (H : Hp) (vs : List V) (Q : VK) (E : XK)
    (hr : Room 5 (A.deeper (PyProof.Rows.envOfC "Word.__init__" (defScope (sWd 0)) s.heap.objs.size f cdv))) (h : spWdI ks CF CW vs H Q E) :
    ∃ t, PSs (cxOf CX0 P w K mg base ["self", "frame", "levels"] "Word.__init__" (defScope (sWd 0)) f cdv A outer s H E) (defBody (sWd 0)) t ∧ t { nx := fun _ H' => Q .non H', rt := Q } (start ["self", "frame", "levels"] vs) H := by
  obtain ⟨fD, fdD, mD, kD, bD, GD⟩ := T.dl
  obtain ⟨a, dx, fr, L, d, gv, rfl, ha, hF, hL, ok, k⟩ := h
  refine ⟨_, pss_cons (ps_fld (pv 0) (pv 1) rfl) (pss_one (ps_fld (pv 0) (pe_call GD hr rfl mD kD bD .nil pass0 (pa_cons (pv 1) (pa_cons (pv 2) pa_nil))) rfl)), ?_⟩
  refine ⟨_, rfl, _, rfl, a, CW, dx, _, rfl, ha, T.cl, T.nF, by show 0 < 1000; decide, ?_⟩
  have nL : L ≠ a := ne_of hL ha (by intro z; cases z)
  refine ⟨_, rfl, _, rfl, fr, L, d, gv, rfl, hF.setIns ha hc hk hl, by rw [upd_ne nL]; exact hL, ok, fun D H1 hD hv s1 => ?_⟩
  have ha1 := s1 _ _ upd_same
  have nD : D ≠ a := fun z => by rw [z, upd_same] at hD; cases hD
  refine ⟨_, rfl, a, CW, dx, _, rfl, ha1, T.cl, T.nL, by show 1 < 1000; decide, ?_⟩
  refine k D _ upd_same (by rw [upd_ne nD]; exact hv) nD fun b o hb e => ?_
  rw [upd_ne hb]
  exact s1 _ _ (by rw [upd_ne hb]; exact e)
theorem ok_wdI {CF CW f : Addr} {fd : FuncData} {ks : Kinds} (F : Fun K "__init__" "Word.__init__" (sWd 0) f fd) (T : WiT6 P w K mg base ks CF CW) (hc : CW ≠ CF) (hk : CW ≠ ks.drv) (hl : CW ≠ ks.lis) (qs : List Str) (hq : qs.Nodup) (hql : qs.length ≤ 1000)
    (hb : ∀ (kV doc pm : Value) (an : Option Addr) (cdv ct : Value) (us ws : List Value), us.length = 2 → ws.length = qs.length →
      bindArgs (PySem.W.fnOf "__init__" "Word.__init__" (defArgs (sWd 0)) (defBody (sWd 0)) (defScope (sWd 0)) .none kV doc pm an cdv ct) ⟨us, qs.zip ws⟩ =
        ((alloc ({ cls := .type "dict", data := .dict #[] } : Obj) : Sem Addr) >>= fun d => (forIn (qs.zip ws) PUnit.unit fun x _ => (nsSet d x.1 x.2 >>= fun _ => pure (ForInStep.yield PUnit.unit))) >>= fun _ => pure ((["self", "frame"] : List Str).zip us ++ [(("levels" : Str), Value.ref d)]))) :
    FnK P w K mg base CX0 6 f qs (spKw 2 qs (spWdI ks CF CW)) :=
  fn_kwD (ps := ["self", "frame"]) (pd := "levels") F scWdI StX.cxUp_none qs hq hql hb (fun cdv A outer s H vs Q E hr h => body_wdI T hc hk hl cdv A outer s H vs Q E hr h)
theorem wdI_b0 (kV doc pm : Value) (an : Option Addr) (cdv ct : Value) (us ws : List Value) (h1 : us.length = 2) (h2 : ws.length = ([] : List Str).length) :
    bindArgs (PySem.W.fnOf "__init__" "Word.__init__" (defArgs (sWd 0)) (defBody (sWd 0)) (defScope (sWd 0)) .none kV doc pm an cdv ct) ⟨us, ([] : List Str).zip ws⟩ =
        ((alloc ({ cls := .type "dict", data := .dict #[] } : Obj) : Sem Addr) >>= fun d => (forIn (([] : List Str).zip ws) PUnit.unit fun x _ => (nsSet d x.1 x.2 >>= fun _ => pure (ForInStep.yield PUnit.unit))) >>= fun _ => pure ((["self", "frame"] : List Str).zip us ++ [(("levels" : Str), Value.ref d)])) := by
  match us, ws, h1, h2 with
  | [_, _], [], _, _ => rfl
end
end Sj
namespace Sj
open PySem L2 Sup StK Own Shw Exg Grd
open NdefX (NF NScope ncx envF startF nscope_by)
open C8 (pss_cut tCut)
/-! Word.of, rest, lone (k06, ..) -/
/-- a word is made by keywords -/
theorem wd_rd {ks : Kinds} {CF CW f : Addr} {d : FrD} {qs : List Str} {zs : List V} {gv : List (Str × Int)} {H : Hp} {Q : VK} {E : XK} (hz : kwRows qs zs = gv.map lvRow) (hF : FrIs ks CF H f d) (ok : LvOk ks d gv)
    (k : ∀ a dx D H', H a = none → H' a = some (.ins CW dx (wdF f D)) → H' D = some (.dK ((lvAll ks d gv).map lvRow)) → D ≠ a → Same H H' → Q (.ref a) H') : spMk CW (spKw 2 qs (spWdI ks CF CW)) E [.ref f] zs H Q := by
  intro x dx hx hdx hne
  obtain ⟨H1, e1⟩ : ∃ H1, H1 = upd (upd H dx (.own x)) x (.ins CW dx []) := ⟨_, rfl⟩
  have s1 : Same H H1 := fun b o e => by rw [e1, upd_ne (ne_of_none e hx), upd_ne (ne_of_none e hdx)]; exact e
  have hx1 : H1 x = some (.ins CW dx []) := by rw [e1, upd_same]
  rw [← e1]
  refine ⟨rfl, fun p hp => ?_⟩
  have s2 := same_at (o := .dK (kwRows qs zs)) hp
  refine ⟨x, dx, f, p, d, gv, rfl, s2 _ _ hx1, hF.same (s1.trans s2), by rw [upd_same, hz], ok, fun D H' h1 h2 h3 b => ⟨rfl, k x dx D H' hx h1 h2 h3 fun c o e => ?_⟩⟩
  exact b c o (ne_of_none e hx) (s2 _ _ (s1 _ _ e))
/-- the word stands on its own: what is done to a dict that was there before does not touch it -/
def spWOf (ks : Kinds) (CF CW : Addr) : Sp := fun vs H Q _ => ∃ f L d gv, vs = [.ref CW, .ref f, .ref L] ∧ FrIs ks CF H f d ∧ H L = some (.dK (gv.map lvRow)) ∧ LvOk ks d gv ∧ 1 ≤ d.t ∧ d.t ≤ 3 ∧ ∀ a H', H a = none → WdIs ks CF CW H' a d gv → Same H H' → (∀ q kvs H0 H'', Same H0 H → H0 q = none → FrIs ks CF H0 f d → H q = some (.dK kvs) → But H' H'' q → WdIs ks CF CW H'' a d gv) → Q (.ref a) H'
def spWRest (ks : Kinds) (CF CW : Addr) : Sp := fun vs H Q _ => ∃ f d, vs = [.ref CW, .ref f] ∧ FrIs ks CF H f d ∧ 1 ≤ d.t ∧ d.t ≤ 3 ∧ ∀ a H', H a = none → WdIs ks CF CW H' a d [] → Same H H' → Q (.ref a) H'
/-- Word(frame) -/
structure WmT (P : Program) (w : World) (K : PySem.W.Frag) (mg : Str → Option Value) (base : Heap) (ks : Kinds) (CF CW fW : Addr) : Prop where
  i : WiT6 P w K mg base ks CF CW
  mkc : Mk K CW fW
  rest : FnK P w K mg base CX0 6 fW [] (spKw 2 [] (spWdI ks CF CW))
theorem lv_nil {ks : Kinds} {d : FrD} : LvOk ks d [] := ⟨by decide, fun p hp => by cases hp⟩
section
variable {P : Program} {w : World} {K : PySem.W.Frag} {mg : Str → Option Value} {base : Heap}
theorem ok_wof {CF CW fW f : Addr} {fd : FuncData} {ks : Kinds} (F : Fun K "of" "Word.of" (sWd 1) f fd) (T : WmT P w K mg base ks CF CW fW) : FnOk P w K mg base CX0 8 f fd ["cls", "frame", "levels"] (spWOf ks CF CW) := by
  obtain ⟨fD, fdD, mD, kD, bD, GD⟩ := T.i.dl
  have sc : FnScope ["cls", "frame", "levels", "checked", "word"] ["cls", "frame", "levels"] (defScope (sWd 1)) := ⟨rfl, rfl, rfl, by decide +kernel, rfl, by decide +kernel, by decide +kernel⟩
  refine F.ok sc (fun vs H Q E h => ?_) (fun cdv A outer s H vs Q E hr h => ?_)
  · obtain ⟨f, L, d, gv, rfl, _⟩ := h
    rfl
  · obtain ⟨f, L, d, gv, rfl, hF, hL, ok, t1, t3, k⟩ := h
    refine ⟨_, pss_cons (ps_set (i := 3) sc.nd rfl (Or.inl rfl) (pe_call GD (hr.mono (by decide)) rfl mD kD bD .nil pass0 (pa_cons (pv 1) (pa_cons (pv 2) pa_nil))))
      (pss_cons (ps_set (i := 4) sc.nd rfl (Or.inl rfl) (pe_makeC T.mkc T.rest hr pass0 (pv 0) (pa_cons (pv 1) pa_nil) pk_nil))
      (pss_cons (ps_fld (pv 4) (pv 3) rfl) (pss_one (ps_ret (pv 4))))), ?_⟩
    refine ⟨_, rfl, _, rfl, f, L, d, gv, rfl, hF, hL, ok, fun D H1 hD hv s1 => ?_⟩
    refine ⟨_, rfl, rfl, _, rfl, rfl, wd_rd (gv := []) rfl (hF.same s1) lv_nil fun a dx D0 H2 ha h1 h2 h3 s2 => ?_⟩
    refine ⟨_, rfl, _, rfl, a, CW, dx, _, rfl, h1, T.i.cl, T.i.nL, by show 2 < 1000; decide, ?_⟩
    rw [wdF_put]
    have nD : D ≠ a := fun z => by rw [z] at hv; rw [hv] at ha; cases ha
    have ha0 : H a = none := s1.free ha
    have s3 : ∀ {o : HO}, Same H1 (upd H2 a o) := fun {o} b u e => by rw [upd_ne (ne_of_none e ha)]; exact s2 _ _ e
    refine ⟨_, rfl, k a _ ha0 ⟨⟨f, dx, D, upd_same, by rw [upd_ne nD]; exact s2 _ _ hv, nD, hF.same (s1.trans s3)⟩, ok, t1, t3⟩ (s1.trans s3) fun q kvs H0 H'' s0 hq0 hF0 hq bq => ?_⟩
    have qa : a ≠ q := fun z => by rw [← z, ha0] at hq; cases hq
    have qD : D ≠ q := fun z => by rw [← z, hD] at hq; cases hq
    exact ⟨⟨f, dx, D, bq _ _ qa upd_same, bq _ _ qD (by rw [upd_ne nD]; exact s2 _ _ hv), nD, hF0.same fun b u e => bq _ _ (ne_of_none e hq0) (s3 _ _ (s1 _ _ (s0 _ _ e)))⟩, ok, t1, t3⟩
theorem ok_wrest {CF CW fW f : Addr} {fd : FuncData} {ks : Kinds} (F : Fun K "rest" "Word.rest" (sWd 2) f fd) (T : WmT P w K mg base ks CF CW fW) : FnOk P w K mg base CX0 8 f fd ["cls", "frame"] (spWRest ks CF CW) := by
  have sc : FnScope ["cls", "frame"] ["cls", "frame"] (defScope (sWd 2)) := ⟨rfl, rfl, rfl, by decide +kernel, rfl, by decide +kernel, by decide +kernel⟩
  refine F.ok sc (fun vs H Q E h => ?_) (fun cdv A outer s H vs Q E hr h => ?_)
  · obtain ⟨f, d, rfl, _⟩ := h
    rfl
  · obtain ⟨f, d, rfl, hF, t1, t3, k⟩ := h
    refine ⟨_, pss_one (ps_ret (pe_makeC T.mkc T.rest hr pass0 (pv 0) (pa_cons (pv 1) pa_nil) pk_nil)), ?_⟩
    exact ⟨_, rfl, rfl, _, rfl, rfl, wd_rd (gv := []) rfl hF lv_nil fun a dx D0 H2 ha h1 h2 h3 s2 => k a H2 ha ⟨⟨f, dx, D0, h1, h2, h3, hF.same s2⟩, lv_nil, t1, t3⟩ s2⟩
end
end Sj
/-! {o} in an f-string, o an instance with its own __str__ -/
namespace Sup
open PySem PySem.Spec PyProof.Rows L2
end Sup
/-! bool(t), t a tuple; bool(o), o an instance with its own __bool__ -/
namespace Sup
open PySem PySem.Spec PyProof.Rows L2
end Sup
/-! o in (None, "a", (..), {..}) by its __eq__ -/
namespace Own
open PySem PySem.Spec PyProof.Rows L2 Sup Grd
/-- None, a text, a tuple, a dict -/
inductive OddM (K : PySem.W.Frag) (H : Hp) : V → Prop
  | non : OddM K H .non
  | tup {t : Addr} {xs : List V} : SqT K H t xs → OddM K H (.ref t)
  | str (z : Str) : OddM K H (.str z)
  | dic {t : Addr} {kvs : List (Key × V)} : H t = some (.dK kvs) → OddM K H (.ref t)
theorem OddM.same {K : PySem.W.Frag} {H H' : Hp} {x : V} (h : OddM K H x) (s : Same H H') : OddM K H' x := by
  cases h with
  | non => exact .non
  | tup q => exact .tup (SqT.ext q s)
  | str z => exact .str z
  | dic q => exact .dic (s _ _ q)
end Own
/-! == of two dicts of ints with the same keys -/
namespace Own
open PySem PySem.Spec PyProof.Rows L2 Sup
def rowI (p : Str × Int) : Key × V := (Sum.inr p.1, .int p.2)
def rEqZ : R2 := fun x y H Q => ∃ (a b : Addr) (zs : List Str) (f g : Str → Int), x = .ref a ∧ y = .ref b ∧ H a = some (.dK (zs.map fun z => rowI (z, f z))) ∧ H b = some (.dK (zs.map fun z => rowI (z, g z))) ∧ Q (.bl (zs.all fun z => decide (f z = g z))) H
theorem valV_rowI (f : Str → Int) : ∀ (zs : List Str) (z : Str), z ∈ zs → valV (zs.map fun z => rowI (z, f z)) (Sum.inr z) = some (.int (f z))
  | y :: zs, z, h => by
    by_cases e : y = z
    · rw [List.map_cons, valV_pos (show (rowI (y, f y)).1 = Sum.inr z by rw [← e]; rfl), e]
      rfl
    · rw [List.map_cons, valV_neg (fun q : (rowI (y, f y)).1 = Sum.inr z => e (Sum.inr.inj q))]
      exact valV_rowI f zs z ((List.mem_cons.mp h).resolve_left fun q => e q.symm)
theorem op_eqZ {X : Cx} (hu : X.A.units < cLine) : OpR X (compareOp .Eq) rEqZ := by
  intro pins s σ H x y v u Q I rx ry h
  obtain ⟨a, b, zs, f, g, rfl, rfl, ea, eb, q⟩ := h
  obtain rfl : v = Value.ref a := rx
  obtain rfl : u = Value.ref b := ry
  obtain ⟨_, ya, va, ra, da⟩ := (show ObjOk X.prog X.w H s.heap a (.dK _) from I.hok a _ ea)
  obtain ⟨_, yb, vb, rb, db⟩ := (show ObjOk X.prog X.w H s.heap b (.dK _) from I.hok b _ eb)
  show wpAny _ _ (richCompare .Eq (.ref a) (.ref b)) _ _ s
  obtain ⟨oa, eoa⟩ : ∃ oa, s.heap.get? a = some oa := let ⟨o, _, _, e, _⟩ := da; ⟨o, e⟩
  obtain ⟨ob, eob⟩ : ∃ ob, s.heap.get? b = some ob := let ⟨o, _, _, e, _⟩ := db; ⟨o, e⟩
  have la : va.length = zs.length := by rw [← ra.length, List.length_map]
  have lb : vb.length = zs.length := by rw [← rb.length, List.length_map]
  refine rc_dict_own (knd := mixKind X.prog X.w) (J := fun s' => s' = s) (oa := oa) (ob := ob) (ok := fun k => match k with | .inr z => decide (f z = g z) | .inl _ => true) ya yb (fun s' e => by rw [e]; exact ⟨eoa, eob⟩) da db rfl hu (fun k v hm => ?_) fun s' e => ?_
  · obtain ⟨x, hx, rx⟩ := kv_mem ra hm
    obtain ⟨z, hz, ez⟩ := List.mem_map.mp hx
    obtain ⟨rfl, rfl⟩ : Sum.inr z = k ∧ V.int (f z) = x := ⟨congrArg Prod.fst ez, congrArg Prod.snd ez⟩
    obtain ⟨t, rfl⟩ := rx
    have e2 := rb.val (Sum.inr z)
    rw [valV_rowI g zs z hz] at e2
    obtain ⟨y, hy, ry⟩ := e2.some_of
    obtain ⟨t2, rfl⟩ := ry
    refine .inr ⟨_, hy, fun s' e => ?_⟩
    refine wpAny_eqBool_int ⟨?_, e⟩
    exact Bool.eq_iff_iff.mpr (by rw [beq_iff_eq, decide_eq_true_eq])
  · subst e
    have e3 : ((va.length == vb.length) && va.all fun p => (match p.1 with | .inr z => decide (f z = g z) | .inl _ => true)) = zs.all fun z => decide (f z = g z) := by
      rw [la, lb, beq_self_eq_true, Bool.true_and, kv_all ra (fun k => match k with | .inr z => decide (f z = g z) | .inl _ => true), List.all_map]
      rfl
    rw [e3]
    exact ⟨.bl _, H, I, rfl, q⟩
end Own
namespace Sj
open PySem L2 Sup StK Own Shw Exg Grd
open NdefX (NF NScope ncx envF startF nscope_by)
open C8 (pss_cut tCut)
/-! Word: low, bool, == (k06, ..) -/
/-- what a word asks of its frame -/
structure WfT (P : Program) (w : World) (K : PySem.W.Frag) (mg : Str → Option Value) (base : Heap) (ks : Kinds) (CF CW : Addr) : Prop where
  cw : Cls K CW
  nF : NoAttr K CW "frame"
  nL : NoAttr K CW "_levels"
  cf : Cls K CF
  nT : NoAttr K CF "top"
  tuple : mg "tuple" = none
  bool : mg "bool" = none
section
variable {P : Program} {w : World} {K : PySem.W.Frag} {mg : Str → Option Value} {base : Heap}
/-! == -/
theorem eqFr_parts {d e : FrD} (h : eqFr d e = true) : d.t = e.t ∧ d.g = e.g ∧ d.r = e.r ∧ eqLegs d.ys e.ys = true := by
  unfold eqFr at h
  rw [Bool.and_eq_true, Bool.and_eq_true, Bool.and_eq_true, decide_eq_true_eq, decide_eq_true_eq, decide_eq_true_eq] at h
  exact ⟨h.1.1, h.1.2.1, h.1.2.2, h.2⟩
theorem eqLegs_sub {ys zs : List LegR} (h : eqLegs ys zs = true) {p : LegR} (hp : p ∈ ys) : ∃ q ∈ zs, q.z = p.z ∧ q.C = p.C := by
  unfold eqLegs at h
  rw [Bool.and_eq_true] at h
  obtain ⟨q, hq, e⟩ := List.any_eq_true.mp (List.all_eq_true.mp h.2 p hp)
  rw [Bool.and_eq_true, decide_eq_true_eq, decide_eq_true_eq] at e
  exact ⟨q, hq, e.1, e.2⟩
theorem sub_all : ∀ {ys zs : List Str}, ys.Nodup → ys ⊆ zs → zs.length ≤ ys.length → ∀ z ∈ zs, z ∈ ys
  | [], zs, _, _, hl, z, hz => by
    rw [List.length_eq_zero_iff.mp (Nat.le_zero.mp hl)] at hz
    exact hz
  | y :: ys, zs, hn, hs, hl, z, hz => by
    obtain ⟨h1, h2⟩ := List.nodup_cons.mp hn
    have hy : y ∈ zs := hs List.mem_cons_self
    have pm := List.perm_cons_erase hy
    have ih := sub_all (ys := ys) (zs := zs.erase y) h2 (fun x hx => by
      have : x ∈ y :: zs.erase y := pm.mem_iff.mp (hs (List.mem_cons_of_mem _ hx))
      exact (List.mem_cons.mp this).resolve_left fun e => h1 (e ▸ hx)) (by
      have := pm.length_eq
      rw [List.length_cons] at this
      rw [List.length_cons] at hl
      omega)
    rcases List.mem_cons.mp (pm.mem_iff.mp hz) with e | e
    · rw [e]
      exact List.mem_cons_self
    · exact List.mem_cons_of_mem _ (ih z e)
theorem eqLegs_names {ys zs : List LegR} (h : eqLegs ys zs = true) (n1 : (names ys).Nodup) (n2 : (names zs).Nodup) : (names ys).Perm (names zs) := by
  have hl : (names ys).length = (names zs).length := by
    unfold eqLegs at h
    rw [Bool.and_eq_true, beq_iff_eq] at h
    unfold names
    rw [List.length_map, List.length_map]
    exact h.1
  have sub : names ys ⊆ names zs := fun z hz => by
    obtain ⟨p, hp, rfl⟩ := List.mem_map.mp hz
    obtain ⟨q, hq, e, _⟩ := eqLegs_sub h hp
    exact List.mem_map.mpr ⟨q, hq, e⟩
  exact (List.perm_ext_iff_of_nodup n1 n2).mpr fun z => ⟨fun h => sub h, fun h => sub_all n1 sub (Nat.le_of_eq hl.symm) z h⟩
theorem eqLegs_kindZ {ks : Kinds} {ys zs : List LegR} (h : eqLegs ys zs = true) (n1 : (names ys).Nodup) (n2 : (names zs).Nodup) (s1 : PyProof.Rows.sortedS (names ys) = true) (s2 : PyProof.Rows.sortedS (names zs) = true) : kindZ ks true ys = kindZ ks true zs := by
  have pm := eqLegs_names h n1 n2
  refine OrdS.pw_uniq ?_ ((OrdS.sorted_pw s1).sublist (List.Sublist.map _ List.filter_sublist)) ((OrdS.sorted_pw s2).sublist (List.Sublist.map _ List.filter_sublist))
  refine (List.perm_ext_iff_of_nodup (kind_nd n1) (kind_nd n2)).mpr fun z => ⟨fun hz => ?_, fun hz => ?_⟩
  · obtain ⟨p, hp, e1, e2⟩ := kind_leg hz
    obtain ⟨q, hq, e3, e4⟩ := eqLegs_sub h hp
    refine List.mem_map.mpr ⟨q, List.mem_filter.mpr ⟨hq, ?_⟩, e3.trans e1⟩
    rw [beq_true, decide_eq_true_eq]
    exact e4.trans e2
  · obtain ⟨q, hq, e1, e2⟩ := kind_leg hz
    have hz' : z ∈ names ys := pm.mem_iff.mpr (List.mem_map.mpr ⟨q, hq, e1⟩)
    obtain ⟨p, hp, e3⟩ := List.mem_map.mp hz'
    obtain ⟨q', hq', e4, e5⟩ := eqLegs_sub h hp
    have : q = q' := by
      have f1 := find_nd n2 hq
      have f2 := find_nd n2 hq'
      rw [e4, e3, ← e1] at f2
      exact Option.some.inj (f1.symm.trans f2)
    refine List.mem_map.mpr ⟨p, List.mem_filter.mpr ⟨hp, ?_⟩, e3⟩
    rw [beq_true, decide_eq_true_eq]
    rw [← e5, ← this]
    exact e2
/-- two words are alike -/
def eqWd (ks : Kinds) (d e : FrD) (gv hv : List (Str × Int)) : Bool := eqFr d e && (kindZ ks true d.ys).all fun z => decide (lvl gv d.t z = lvl hv e.t z)
def spWEq (K : PySem.W.Frag) (ks : Kinds) (CF CW : Addr) : Sp := fun vs H Q _ => ∃ a d gv y, vs = [.ref a, y] ∧ WdIs ks CF CW H a d gv ∧ ((∃ b e hv, y = .ref b ∧ WdIs ks CF CW H b e hv ∧ ∀ H', Same H H' → Q (.bl (eqWd ks d e gv hv)) H') ∨ ∃ t, TyX K H y t ∧ PySem.W.kitOne K t (.ref CW) = some false ∧ ∀ H', Same H H' → Q (.bl false) H')
structure WeT (P : Program) (w : World) (K : PySem.W.Frag) (mg : Str → Option Value) (base : Heap) (ks : Kinds) (CF CW : Addr) : Prop where
  f : WfT P w K mg base ks CF CW
  isi : mg "isinstance" = none
  mW : mg "Word" = some (.ref CW)
  icW : IsiC K CW
  self : PySem.W.kitOne K (.ref CW) (.ref CW) = some true
  eqF : EqN P w K mg base 4 CF (spFEq K ks CF)
  icF : IsiC K CF
  nf : PySem.W.notFirst K CF (.ref CF) = true
theorem ok_weq {CF CW f : Addr} {fd : FuncData} {ks : Kinds} (F : Fun K "__eq__" "Word.__eq__" (sWd 8) f fd) (T : WeT P w K mg base ks CF CW) : FnOk P w K mg base CX0 7 f fd ["self", "other"] (spWEq K ks CF CW) := by
  have sc : FnScope ["self", "other"] ["self", "other"] (defScope (sWd 8)) := ⟨rfl, rfl, rfl, by decide +kernel, rfl, by decide +kernel, by decide +kernel⟩
  refine F.ok sc (fun vs H Q E h => ?_) (fun cdv A outer s H vs Q E hr h => ?_)
  · obtain ⟨a, d, gv, y, rfl, _⟩ := h
    rfl
  · obtain ⟨a, d, gv, y, rfl, hW, h⟩ := h
    obtain ⟨fr, dx, D, ea, eD, hne, hF⟩ := hW.ex
    refine ⟨_, pss_one (ps_ret (pe_and (pe_callB call_isi (by rfl) T.isi (by decide +kernel) (pa_cons (pv 1) (pa_cons (pe_glob rfl T.mW (v := .ref CW) rfl) pa_nil)))
      (pe_and (pe_cmpR (op_ownE (.inl rfl) (S := fun C => C = CF) (spE := fun _ => spFEq K ks CF) (fun C e => by rw [e]; exact T.eqF.eqC (hr.mono (by decide)))) (pe_fld (pv 0) rfl) (pe_fld (pv 1) rfl) (nomark _))
      (pe_one (pe_cmpR (op_eqZ hr.units0) (pe_fld (pv 0) rfl) (pe_fld (pv 1) rfl) (nomark _)))))), ?_⟩
    rcases h with ⟨b, e, hv, rfl, hV, k⟩ | ⟨t, ty, hk, k⟩
    · obtain ⟨fr', dy, D', eb, eD', hne', hF'⟩ := hV.ex
      have tyb : TyX K H (.ref b) (.ref CW) := .base (.ins eb T.icW.cl T.icW.ca T.icW.cn T.icW.ct T.icW.cm)
      obtain ⟨fx, fs, ef⟩ := hF.ins
      obtain ⟨fy, fs', ef'⟩ := hF'.ins
      refine ⟨_, rfl, _, _, .ref CW, .ref CW, true, rfl, .own _, tyb, T.self, _, rfl, iteT ?_⟩
      refine ⟨_, rfl, a, CW, dx, _, _, rfl, ea, T.f.cw, T.f.nF, wdF_frame _ _, _, rfl, b, CW, dy, _, _, rfl, eb, T.f.cw, T.f.nF, wdF_frame _ _, ?_⟩
      refine ⟨fr, CF, fx, fs, rfl, ef, rfl, .inl ⟨.ref CF, .base (.ins ef' T.icF.cl T.icF.ca T.icF.cn T.icF.ct T.icF.cm), T.nf, fr, d, .ref fr', rfl, hF, .inl ⟨fr', e, rfl, hF', fun H1 s1 => ⟨_, rfl, _, rfl, ?_⟩⟩⟩⟩
      show if eqFr d e = true then _ else _
      have keq : ∀ v, eqWd ks d e gv hv = v → ∀ H', Same H H' → Q (.bl v) H' := fun v ev H' s => by rw [← ev]; exact k H' s
      cases ef : eqFr d e with
      | false =>
        refine iteF (keq _ ?_ _ s1)
        unfold eqWd
        rw [ef, Bool.false_and]
      | true =>
        obtain ⟨_, _, _, e4⟩ := eqFr_parts ef
        have ek := eqLegs_kindZ (ks := ks) e4 hF.nd hF'.nd hF.so hF'.so
        refine iteT ⟨_, rfl, a, CW, dx, _, _, rfl, s1 _ _ ea, T.f.cw, T.f.nL, wdF_lv _ _, _, rfl, b, CW, dy, _, _, rfl, s1 _ _ eb, T.f.cw, T.f.nL, wdF_lv _ _, ?_⟩
        refine ⟨D, D', kindZ ks true d.ys, fun z => lvl gv d.t z, fun z => lvl hv e.t z, rfl, rfl, ?_, ?_, keq _ ?_ _ s1⟩
        · have := s1 _ _ eD
          unfold lvAll at this
          rw [List.map_map] at this
          exact this
        · have := s1 _ _ eD'
          unfold lvAll at this
          rw [List.map_map, ← ek] at this
          exact this
        · unfold eqWd
          rw [ef, Bool.true_and]
    · exact ⟨_, rfl, _, _, t, .ref CW, false, rfl, .own _, ty, hk, _, rfl, iteF (k H (Same.refl H))⟩
end
end Sj
/-! x not in (texts), x a text, or flat, or a list, a tuple, a dict -/
namespace Own
open PySem PySem.Spec PyProof.Rows L2 Sup
section
variable {prog : Program} {w : World} {A : Around} {s : Shared}
theorem rc_str_dict {b : Str} {u : Tok} {a : Addr} {o : Obj} {es : Array DictEntry} {ep : Nat} (ho : s.heap.get? a = some o) (hx : o.ExactDict) (hd : o.data = .dict es ep) (hu : A.units < cLine) {E : Value → Shared → Prop} {Q : Value → Shared → Prop} (h : Q (.bool false) s) :
    wpAny (model prog w) A (richCompare .Eq (.str b u) (.ref a)) Q E s := by
  obtain ⟨cls, dd, data, sl⟩ := o
  obtain ⟨hc, hdd, hsl⟩ := hx
  simp only at hc hdd hsl hd
  subst hc hdd hsl hd
  have hT : s.TypeIs (.ref a) "dict" := ⟨_, ho, rfl⟩
  refine SeqAt.rc_eq_decline_or (k := false) (typeIs_str s b u) hT (by decide) F.sub_dict_str F.slot_str_eq F.slot_dict_eq_refl (fun Q' hq => ?_) (fun Q' hq => ?_) (fun _ hq => wpAny_of_eq (rfl : isSame (.str b u) (.ref a) = pure false) hq) (.inr hu) h
  · refine wpAny_call_entry F.slot_str_eq (typeIs_str _ _ _) F.entry_str_eq ?_ (F.args_str_eq_2 _ _)
    have isn : ∀ (A : Around) (E : Value → Shared → Prop) (R : Option Str → Shared → Prop), R none s → wpAny (model prog w) A (asStr? (.ref a)) R E s := fun A E R hR => by
      unfold asStr?
      exact wpAny_bind (wpAny_load ho (wpAny_pure hR))
    obtain ⟨hp, gg, d, tk, os⟩ := s
    wp_walk using isn
    exact ⟨_, rfl, hq⟩
  · refine wpAny_call_entry F.slot_dict_eq_refl hT F.entry_dict_eq (show wpAny _ _ (Builtin.Dict.dictSlotArgs "__eq__" ⟨[.ref a, .str b u], []⟩ >>= _) _ _ s from ?_) (F.args_dict_eq_2 _ _)
    refine wpAny_bind ?_
    unfold Builtin.Dict.dictSlotArgs
    refine wpAny_bind (wpAny_notOrdered_dict hT (show wpAny _ _ (pure (Value.ref a, Value.str b u)) _ _ s from wpAny_pure ?_))
    refine wpAny_bind (wpAny_isInstance (T := "str") (b := false) (typeIs_str _ _ _) F.sub_str_dict ?_)
    first
      | exact wpAny_bind (wpAny_rule (wpAny_pure ⟨_, rfl, (fun x => nomatch x), hq⟩))
      | (obtain ⟨hp, gg, d, tk, os⟩ := s
         wp_walk
         exact ⟨_, rfl, hq⟩)
theorem eqAt_str_dict {b : Str} {u : Tok} {a : Addr} {o : Obj} {es : Array DictEntry} {ep : Nat} (ho : s.heap.get? a = some o) (hx : o.ExactDict) (hd : o.data = .dict es ep) (hu : A.units < cLine) : SeqAt.EqAt A s (.str b u) (.ref a) false := fun prog w E Q h => by
  unfold eqBool
  refine wpAny_holding ?_
  refine wpAny_ite_split (fun hab => absurd (eq_of_beq hab) nofun) (fun _ => ?_)
  exact wpAny_bind (rc_str_dict ho hx hd hu (wpAny_truthy_bool h))
end
/-- what may be asked for among texts, and whether it is there -/
inductive InS (K : PySem.W.Frag) (H : Hp) (zs : List Str) : V → Bool → Prop
  | str (z : Str) : InS K H zs (.str z) (decide (z ∈ zs))
  | non : InS K H zs .non false
  | bl (b : Bool) : InS K H zs (.bl b) false
  | int (i : Int) : InS K H zs (.int i) false
  | lst {a : Addr} {xs : List V} : SqL K H a xs → InS K H zs (.ref a) false
  | tup {a : Addr} {xs : List V} : SqT K H a xs → InS K H zs (.ref a) false
  | dic {a : Addr} {kvs : List (Key × V)} : H a = some (.dK kvs) → InS K H zs (.ref a) false
def rNotInS (K : PySem.W.Frag) : R2 := fun x y H Q => ∃ (t : Addr) (zs : List Str) (b : Bool), y = .ref t ∧ SqT K H t (zs.map V.str) ∧ InS K H zs x b ∧ Q (.bl (!b)) H
theorem strs_of : ∀ {zs : List Str} {its : List Value}, Vals (zs.map V.str) its → ∀ u ∈ its, ∃ z ∈ zs, ∃ t, u = .str z t
  | [], _, .nil, u, hu => by cases hu
  | z :: zs, _, .cons r t, u, hu => by
    rcases List.mem_cons.mp hu with rfl | hu
    · obtain ⟨tk, rfl⟩ := r
      exact ⟨z, List.mem_cons_self, tk, rfl⟩
    · obtain ⟨y, hy, e⟩ := strs_of t u hu
      exact ⟨y, List.mem_cons_of_mem _ hy, e⟩
theorem any_strs : ∀ {zs : List Str} {its : List Value} (z : Str), Vals (zs.map V.str) its → (its.any fun u => match u with | .str y _ => y == z | _ => false) = decide (z ∈ zs)
  | [], _, _, .nil => by simp
  | y :: zs, _, z, .cons r t => by
    obtain ⟨tk, rfl⟩ := r
    rw [List.any_cons, any_strs z t]
    refine Bool.eq_iff_iff.mpr ?_
    rw [Bool.or_eq_true, decide_eq_true_eq, decide_eq_true_eq, List.mem_cons]
    dsimp only
    rw [beq_iff_eq]
    exact ⟨fun h => h.imp Eq.symm id, fun h => h.imp Eq.symm id⟩
theorem op_notInS {X : Cx} (hu : X.A.in1.units < cLine) : OpR X (compareOp .NotIn) (rNotInS X.K) := by
  intro pins s σ H x y v u Q I rx ry h
  obtain ⟨t, zs, b, rfl, ht, hb, q⟩ := h
  obtain rfl : u = Value.ref t := ry
  obtain ⟨its, r, pl, hz⟩ := I.tuple ht
  have fin : ∀ (e : Value → Bool), its.toArray.any e = b → (∀ y ∈ its, SeqAt.EqAt X.A.in1 s y v (e y)) → wpAny (model X.prog X.w) X.A (compareOp .NotIn v (.ref t)) (EP X pins σ Q) X.xe s := fun e he hq => by
    refine SeqAt.notIn_tupleAt e pl (fun y hy => hq y (by simpa using hy)) ?_
    rw [he]
    exact ⟨.bl (!b), H, I, rfl, q⟩
  have no : b = false → (∀ z tk, SeqAt.EqAt X.A.in1 s (.str z tk) v false) → wpAny (model X.prog X.w) X.A (compareOp .NotIn v (.ref t)) (EP X pins σ Q) X.xe s := fun eb hq => by
    refine fin (fun _ => false) ?_ fun y hy => ?_
    · rw [eb]
      simp
    · obtain ⟨z, _, tk, rfl⟩ := strs_of r y hy
      exact hq z tk
  cases hb with
  | str z =>
    obtain ⟨tz, rfl⟩ := rx
    refine fin (fun u => match u with | .str y _ => y == z | _ => false) ?_ fun y hy => ?_
    · rw [← any_strs z r]
      simp
    · obtain ⟨y, _, tk, rfl⟩ := strs_of r y hy
      exact SeqAt.EqAt.str_str _ _ _ _
  | non =>
    obtain rfl : v = Value.none := rx
    exact no rfl fun z tk => SeqAt.EqAt.str_none _ _
  | bl c =>
    obtain rfl : v = Value.bool c := rx
    exact no rfl fun z tk => SeqAt.EqAt.str_bool _ _ _
  | int i =>
    obtain ⟨ti, rfl⟩ := rx
    exact no rfl fun z tk => SeqAt.EqAt.str_int _ _ _ _
  | lst hq =>
    rename_i a xs
    obtain rfl : v = Value.ref a := rx
    obtain ⟨it2, _, p2, _⟩ := I.list hq
    exact no rfl fun z tk => SeqAt.EqAt.str_list _ _ p2.isList hu
  | tup hq =>
    rename_i a xs
    obtain rfl : v = Value.ref a := rx
    obtain ⟨it2, _, p2, _⟩ := I.tuple hq
    exact no rfl fun z tk => SeqAt.EqAt.str_tuple _ _ p2 hu
  | dic hq =>
    rename_i a kvs
    obtain rfl : v = Value.ref a := rx
    obtain ⟨_, _, vs, _, o, es, ep, ho, hx, hd, _⟩ := dk_of I.hok hq
    exact no rfl fun z tk => eqAt_str_dict ho hx hd hu
end Own
namespace Sj
open PySem L2 Sup StK Own Shw Exg Grd
open NdefX (NF NScope ncx envF startF nscope_by)
open C8 (pss_cut tCut)
/-! Word: str, repr, [] (k06, ..) -/
theorem lvG_nd : ∀ {lv : List (Str × Int)} {p : Str × Int}, (lv.map (·.1)).Nodup → p ∈ lv → lvG lv p.1 = some p.2
  | q :: lv, p, hn, hp => by
    rw [List.map_cons, List.nodup_cons] at hn
    unfold lvG
    rcases List.mem_cons.mp hp with rfl | hp
    · exact if_pos rfl
    · rw [if_neg fun e => hn.1 (by rw [e]; exact List.mem_map.mpr ⟨p, hp, rfl⟩)]
      exact lvG_nd hn.2 hp
end Sj
namespace Sj
open PySem L2 Sup StK Own Shw Exg Grd
open NdefX (NF NScope ncx envF startF nscope_by)
open C8 (pss_cut tCut)
/-! Word: [] (k06, ..) -/
/-- what an element is driven at, where it is no ground -/
def wlv (ks : Kinds) (d : FrD) (gv : List (Str × Int)) (z : Str) : Int := lvl (lvAll ks d gv) d.t z
theorem lvG_cons (p : Str × Int) (r : List (Str × Int)) (z : Str) : lvG (p :: r) z = if p.1 = z then some p.2 else lvG r z := rfl
theorem lvl_all (gv : List (Str × Int)) (t : Int) : ∀ (zs : List Str) (z : Str), lvl (zs.map fun z => (z, lvl gv t z)) t z = if z ∈ zs then lvl gv t z else t
  | [], z => rfl
  | y :: zs, z => by
    have ih := lvl_all gv t zs z
    unfold lvl at ih ⊢
    rw [List.map_cons, lvG_cons]
    by_cases e : y = z
    · rw [if_pos e, if_pos (by rw [e]; exact List.mem_cons_self), e]
      rfl
    · rw [if_neg e, ih]
      have h2 : (z ∈ y :: zs) = (z ∈ zs) := propext ⟨fun h => (List.mem_cons.mp h).resolve_left fun q => e q.symm, fun h => List.mem_cons_of_mem _ h⟩
      simp only [h2]
theorem wlv_eq (ks : Kinds) (d : FrD) (gv : List (Str × Int)) (z : Str) : wlv ks d gv z = if z ∈ kindZ ks true d.ys then lvl gv d.t z else d.t := lvl_all gv d.t _ z
theorem inS_same {K : PySem.W.Frag} {H H' : Hp} {zs : List Str} {x : V} {b : Bool} (h : InS K H zs x b) (s : Same H H') : InS K H' zs x b := by
  cases h with
  | str z => exact .str z
  | non => exact .non
  | bl b => exact .bl b
  | int i => exact .int i
  | lst q => exact .lst (q.ext s)
  | tup q => exact .tup (SqT.ext q s)
  | dic q => exact .dic (s _ _ q)
end Sj
namespace Sj
open PySem L2 Sup StK Own Shw Exg
open NdefX (NF NScope ncx envF startF nscope_by)
open C8 (pss_cut tCut)
/-! xs != [] of a list of anything; what a frame tells of a plain one -/
def rNeNil : R2 := fun x y H Q => ∃ a b xs, x = .ref a ∧ y = .ref b ∧ H a = some (.lst xs) ∧ H b = some (.lst []) ∧ Q (.bl (!xs.isEmpty)) H
theorem op_neNil {X : Cx} (hu : X.A.units + 64 < cLine) : OpR X (compareOp .NotEq) rNeNil := by
  intro pins s σ H x y v u Q I rx ry h
  obtain ⟨a, b, xs, rfl, rfl, ha, hb, q⟩ := h
  cases xs with
  | nil => exact op_neD hu pins s σ H _ _ v u Q I rx ry ⟨.list [], .list [], .lst (SqL.of ha) .nil, .lst (SqL.of hb) .nil, rfl, rfl, q⟩
  | cons y ys =>
    obtain rfl : v = Value.ref a := rx
    obtain rfl : u = Value.ref b := ry
    obtain ⟨its, r1, p1, _⟩ := I.list (SqL.of ha)
    obtain ⟨it2, r2, p2, _⟩ := I.list (SqL.of hb)
    have e1 : its.toArray.size ≠ it2.toArray.size := by
      rw [List.size_toArray, List.size_toArray, ← r1.length, ← r2.length]
      exact Nat.succ_ne_zero _
    exact SeqAt.RcNeAt.lists_lengths p1.isList p2.isList (by simpa using e1) (Nat.lt_of_le_of_lt (Nat.le_add_right _ _) hu) _ _ _ _ ⟨.bl true, H, I, rfl, q⟩
/-- the frame is the one that is told -/
structure Told (ks : Kinds) (ys : List LegR) (d : BareD) : Prop where
  nm : ∀ zs : List Str, zs.Perm (d.ds ++ d.ls) → PyProof.Rows.sortedS zs = true → zs = names ys
  dr : kindZ ks true ys = d.ds
  li : kindZ ks false ys = d.ls
  pm : (names ys).Perm (d.ds ++ d.ls)
theorem told_of {ks : Kinds} {ys : List LegR} {d : BareD} (ok : d.ok) (hne : ks.drv ≠ ks.lis) (so : PyProof.Rows.sortedS (names ys) = true) (h : KindsOf ks ys d.ds d.ls) : Told ks ys d := by
  obtain ⟨rs1, rs2, hp, e1, e2, c1, c2⟩ := h
  have pm : (names ys).Perm (d.ds ++ d.ls) := by
    have : (names ys).Perm (names (rs1 ++ rs2)) := hp.map _
    rwa [names_append, e1, e2] at this
  have pwn := OrdS.sorted_pw so
  have fil : ∀ b, (kindZ ks b ys).Perm (if b then d.ds else d.ls) ∧ (kindZ ks b ys).Pairwise OrdS.Le := fun b => by
    refine ⟨?_, pwn.sublist (List.Sublist.map _ List.filter_sublist)⟩
    have q : (kindZ ks b ys).Perm (names ((rs1 ++ rs2).filter fun r => decide (r.C = ks.drv) == b)) := (hp.filter _).map _
    rw [List.filter_append, names_append] at q
    have f1 : rs1.filter (fun r => decide (r.C = ks.drv) == b) = if b then rs1 else [] := by
      cases b with
      | true => exact List.filter_eq_self.mpr fun r hr => by rw [decide_eq_true (c1 r hr)]; rfl
      | false => exact List.filter_eq_nil_iff.mpr fun r hr => by rw [decide_eq_true (c1 r hr)]; simp
    have f2 : rs2.filter (fun r => decide (r.C = ks.drv) == b) = if b then [] else rs2 := by
      have hn : ∀ r ∈ rs2, decide (r.C = ks.drv) = false := fun r hr => decide_eq_false fun z => hne (by rw [← z, c2 r hr])
      cases b with
      | true => exact List.filter_eq_nil_iff.mpr fun r hr => by rw [hn r hr]; simp
      | false => exact List.filter_eq_self.mpr fun r hr => by rw [hn r hr]; rfl
    rw [f1, f2] at q
    cases b with
    | true => rw [if_pos rfl, if_pos rfl, e1, show names [] = [] from rfl, List.append_nil] at q; exact q
    | false => rw [if_neg Bool.false_ne_true, if_neg Bool.false_ne_true, e2, show names [] = [] from rfl, List.nil_append] at q; exact q
  exact ⟨fun zs hz hs => OrdS.uniq (hz.trans pm.symm) hs so, OrdS.pw_uniq (fil true).1 (fil true).2 ok.sd, OrdS.pw_uniq (fil false).1 (fil false).2 ok.sl, pm⟩
theorem eqFr_top {d e : FrD} (h : d.t ≠ e.t) : eqFr d e = false := by
  unfold eqFr
  rw [decide_eq_false h]
  rfl
theorem eqFr_g {d e : FrD} (h : d.g ≠ e.g) : eqFr d e = false := by
  unfold eqFr
  rw [decide_eq_false h, Bool.false_and, Bool.and_false]
  rfl
theorem eqFr_r {d e : FrD} (h : d.r ≠ e.r) : eqFr d e = false := by
  unfold eqFr
  rw [decide_eq_false h, Bool.and_false, Bool.and_false]
  rfl
theorem eqFr_legs {d e : FrD} (h : eqLegs d.ys e.ys = false) : eqFr d e = false := by
  unfold eqFr
  rw [h, Bool.and_false]
/-! a list that is not empty -/
theorem eqLegs_kind {ys zs : List LegR} {p q : LegR} (hp : p ∈ ys) (hq : q ∈ zs) (hn : (names zs).Nodup) (hz : q.z = p.z) (hc : q.C ≠ p.C) : eqLegs ys zs = false := by
  have : (zs.any fun q => decide (q.z = p.z) && decide (q.C = p.C)) = false := by
    refine List.any_eq_false.mpr fun q' hq' h => hc ?_
    rw [Bool.and_eq_true, decide_eq_true_eq, decide_eq_true_eq] at h
    have e1 := find_nd hn hq
    have e2 := find_nd hn hq'
    rw [hz] at e1
    rw [h.1] at e2
    have : q = q' := Option.some.inj (e1.symm.trans e2)
    rw [this]
    exact h.2
  unfold eqLegs
  rw [show (ys.all fun p => zs.any fun q => decide (q.z = p.z) && decide (q.C = p.C)) = false from List.all_eq_false.mpr ⟨p, hp, by rw [this]; exact Bool.false_ne_true⟩, Bool.and_false]
theorem eqLegs_of {ks : Kinds} {ys zs : List LegR} {ds ls : List Str} (h : KindsOf ks ys ds ls) (h' : KindsOf ks zs ds ls) : eqLegs ys zs = true := by
  obtain ⟨r1, r2, hp, e1, e2, c1, c2⟩ := h
  obtain ⟨q1, q2, hp', e1', e2', c1', c2'⟩ := h'
  have l1 : r1.length = q1.length := by
    have := congrArg List.length (e1.trans e1'.symm)
    unfold names at this
    rwa [List.length_map, List.length_map] at this
  have l2 : r2.length = q2.length := by
    have := congrArg List.length (e2.trans e2'.symm)
    unfold names at this
    rwa [List.length_map, List.length_map] at this
  have len : ys.length = zs.length := by rw [hp.length_eq, hp'.length_eq, List.length_append, List.length_append, l1, l2]
  unfold eqLegs
  rw [show (ys.length == zs.length) = true by rw [len]; exact beq_self_eq_true _, Bool.true_and]
  refine List.all_eq_true.mpr fun p hm => ?_
  have find : ∀ (rr qq : List LegR) (C : Addr), names rr = names qq → (∀ r ∈ rr, r.C = C) → (∀ r ∈ qq, r.C = C) → (∀ q ∈ qq, q ∈ zs) → p ∈ rr → (zs.any fun q => decide (q.z = p.z) && decide (q.C = p.C)) = true := fun rr qq C en hr hq hz hm => by
    have hn : p.z ∈ names qq := by rw [← en]; exact List.mem_map.mpr ⟨p, hm, rfl⟩
    obtain ⟨q, hqm, eq⟩ := List.mem_map.mp hn
    refine List.any_eq_true.mpr ⟨q, hz q hqm, ?_⟩
    rw [Bool.and_eq_true, decide_eq_true_eq, decide_eq_true_eq]
    exact ⟨eq, (hq q hqm).trans (hr p hm).symm⟩
  rcases List.mem_append.mp (hp.mem_iff.mp hm) with h | h
  · exact find r1 q1 ks.drv (e1.trans e1'.symm) c1 c1' (fun q hq => hp'.mem_iff.mpr (List.mem_append_left _ hq)) h
  · exact find r2 q2 ks.lis (e2.trans e2'.symm) c2 c2' (fun q hq => hp'.mem_iff.mpr (List.mem_append_right _ hq)) h
theorem eqFr_self {d e : FrD} (h1 : d.t = e.t) (h2 : d.g = e.g) (h3 : d.r = e.r) (h4 : eqLegs d.ys e.ys = true) : eqFr d e = true := by
  unfold eqFr
  rw [h4, decide_eq_true h1, decide_eq_true h2, decide_eq_true h3]
  rfl
end Sj
namespace Sj
open PySem L2 Sup StK Own Shw Exg Grd
open NdefX (NF NScope ncx envF startF nscope_by)
open C8 (pss_cut tCut)
/-! k06: _law_lacking, _law_driven, _law_text -/
theorem inV_strs : ∀ (zs : List Str) (z : Str), inV (.str z) (strv zs) = decide (z ∈ zs)
  | [], z => by simp [inV, strv]
  | y :: zs, z => by
    have ih := inV_strs zs z
    show (eqV (V.str y) (V.str z) || inV (.str z) (strv zs)) = _
    rw [ih]
    by_cases e : z = y
    · subst e
      simp [eqV]
    · have e' : y ≠ z := fun q => e q.symm
      simp [eqV, e, e']
theorem flat_strs (zs : List Str) : (strv zs).all flatV = true := by
  unfold strv
  rw [List.all_map]
  exact List.all_eq_true.mpr fun z _ => rfl
/-- a plain word's levels, as a dict of the law -/
def LvAt (H : Hp) (L : Addr) (gv : List (Str × Int)) : Prop := H L = some (.dK (gv.map lvRow))
/-- levels within 0 and top, of drivers -/
def LvB (d : BareD) (gv : List (Str × Int)) : Prop := gv.length ≤ 60 ∧ (∀ p ∈ gv, p.1 ∈ d.ds ∧ 0 ≤ p.2 ∧ p.2 ≤ d.t)
end Sj
namespace Sj
open PySem L2 Sup StK Own Shw Exg Grd
open NdefX (NF NScope ncx envF startF nscope_by)
open C8 (pss_cut tCut)
/-! k06: _law_unlike, _law_levels -/
theorem BareAt.grow {H H' : Hp} {b p q : Addr} {d : BareD} {xs : List V} (h : BareAt H b d p) (h' : BareAt H b d q) (hq : H q = some (.lst xs)) (s : But H H' q) : BareAt H' b d p := by
  obtain ⟨dl, ll, rl, h1, h2, h3, h4, h5, h6, h7⟩ := h.ex
  obtain ⟨dl', ll', rl', g1, _, _, _, g5, g6, g7⟩ := h'.ex
  rw [h1] at g1
  injection Option.some.inj g1 with g1
  unfold rowsB at g1
  simp only [List.cons.injEq, Prod.mk.injEq, V.ref.injEq, true_and, and_true] at g1
  obtain ⟨rfl, rfl, rfl⟩ := g1
  exact ⟨dl, ll, rl, s _ _ (ne_of h1 hq (by intro z; cases z)) h1, s _ _ g5 h2, s _ _ g6 h3, s _ _ g7 h4, h5, h6, h7⟩
abbrev sLvs : Stmt := top 59
/-- unlike: another top, or a leg of the other kind -/
def UnlikeD (d d' : BareD) : Prop := d'.t ≠ d.t ∨ ∃ z, (z ∈ d'.ds ∧ z ∈ d.ls) ∨ (z ∈ d'.ls ∧ z ∈ d.ds)
def arefs (as : List (Addr × BareD)) : List V := as.map fun x => .ref x.1
def UnlL (H : Hp) (p q : Addr) (d : BareD) (as : List (Addr × BareD)) : Prop := H q = some (.lst (arefs as)) ∧ ∀ x ∈ as, BareAt H x.1 x.2 p ∧ BareAt H x.1 x.2 q ∧ x.2.ok ∧ UnlikeD d x.2
theorem put_drv (t : Int) (dl ll rl x : Addr) : putK (rowsB t dl ll rl) (Sum.inr "drivers" : Key) (.ref x) = rowsB t x ll rl := by
  unfold rowsB putK
  simp +decide
theorem put_lis (t : Int) (dl ll rl x : Addr) : putK (rowsB t dl ll rl) (Sum.inr "listeners" : Key) (.ref x) = rowsB t dl x rl := by
  unfold rowsB putK
  simp +decide
theorem UnlL.snoc {H : Hp} {p q x : Addr} {d e : BareD} {as : List (Addr × BareD)} {ys : List V} (h : UnlL H p q d as) (hp : BareAt H x e p) (hq : BareAt H x e q) (ok : e.ok) (u : UnlikeD d e) : UnlL (upd H q (.lst (arefs as ++ [.ref x]))) p q d (as ++ [(x, e)]) := by
  have bt := But.upd H q (.lst (arefs as ++ [.ref x]))
  refine ⟨?_, fun y hy => ?_⟩
  · rw [upd_same]
    unfold arefs
    rw [List.map_append]
    rfl
  · rcases List.mem_append.mp hy with hy | hy
    · obtain ⟨h1, h2, h3, h4⟩ := h.2 y hy
      exact ⟨h1.grow h2 h.1 bt, h2.grow h2 h.1 bt, h3, h4⟩
    · obtain rfl := List.mem_singleton.mp hy
      exact ⟨hp.grow hq h.1 bt, hq.grow hq h.1 bt, ok, u⟩
theorem UnlL.same {H H' : Hp} {p q : Addr} {d : BareD} {as : List (Addr × BareD)} (h : UnlL H p q d as) (s : Same H H') : UnlL H' p q d as := ⟨s _ _ h.1, fun x hx => ⟨(h.2 x hx).1.same s, (h.2 x hx).2.1.same s, (h.2 x hx).2.2⟩⟩
abbrev nLv : List Str := ["_law_pen_here", "_law_bare_here", "_law_way", "_law_found", "_law_tag", "_law_level"]
theorem scLv : FnScope nLv ["_law_pen_here", "_law_bare_here"] (defScope sLvs) := ⟨rfl, rfl, rfl, by decide +kernel, rfl, by decide +kernel, by decide +kernel⟩
def spLvs : Sp := fun vs H Q _ => ∃ (p l : Addr) (cs : List Int) (n : Nat) (b : Addr) (d : BareD), vs = [.ref p, .ref b] ∧ Pen H p l cs n ∧ BareAt H b d p ∧ d.ok ∧ n < 80000 ∧
  ∀ D gv H', LvB d gv → (gv.map (·.1)).Nodup → LvAt H' D gv → H D = none → Pen H' p l cs (n + 60) → But H H' p → Q (.ref D) H'
section
variable {P : Program} {w : World} {K : PySem.W.Frag} {mg : Str → Option Value} {base : Heap}
theorem ok_lvs {f : Addr} {fd : FuncData} (F : Fun K "_law_levels" "_law_levels" sLvs f fd) (T : DwT P w K mg base) : FnOk P w K mg base CX0 3 f fd ["_law_pen_here", "_law_bare_here"] spLvs := by
  obtain ⟨fD, fdD, mD, kD, bD, GD⟩ := T.draw
  refine F.ok scLv (fun vs H Q E h => ?_) (fun cdv A outer s H vs Q E hr h => ?_)
  · obtain ⟨p, l, cs, n, b, d, rfl, _⟩ := h
    rfl
  · obtain ⟨p, l, cs, n, b, d, rfl, hP, hB, ok, hn, k⟩ := h
    have hu := hu_of hr
    have hr1 := hr.mono (show 1 ≤ 2 by decide)
    refine ⟨_, pss_cons (ps_par (i := 2) (j := 3) (by rfl) scLv.nd rfl rfl (by decide) rfl rfl (pa_cons (pe_call GD hr1 rfl mD kD bD .nil pass0 (pa_cons (pv 0) (pa_cons pe_int pa_nil))) (pa_cons pe_dnewK pa_nil)) (by rfl))
      (pss_cons (ps_for PassesOwn.never rfl (pi_list (pe_dget hu (pv 1) pe_str (fun _ _ => rfl))) (pg_name (i := 4) scLv.nd rfl (Or.inl rfl))
        (pss_cons (ps_set (i := 5) scLv.nd rfl (Or.inl rfl) (pe_ix ix_list (pe_lst (pa_cons pe_int (pa_cons (pe_call GD hr1 rfl mD kD bD .nil pass0 (pa_cons (pv 0) (pa_cons (pe_op op_add (pe_dget hu (pv 1) pe_str (fun _ _ => rfl)) pe_int) pa_nil)))
            (pa_cons (pe_op op_mul (pe_call GD hr1 rfl mD kD bD .nil pass0 (pa_cons (pv 0) (pa_cons pe_int pa_nil))) (pe_dget hu (pv 1) pe_str (fun _ _ => rfl))) (pa_cons (pe_dget hu (pv 1) pe_str (fun _ _ => rfl)) pa_nil))))) (pv 2) (fun _ _ => rfl)))
        (pss_one (ps_if (PW.pt (pw_or (pt_cmpR op_eq (pv 2) pe_int (nomark _)) (pw_or1 (pt_cmpR op_eq (pe_call GD hr1 rfl mD kD bD .nil pass0 (pa_cons (pv 0) (pa_cons pe_int pa_nil))) pe_int (nomark _))))) (pss_one (ps_dput hu (pv 3) (pv 4) (pv 5) rfl)) pss_nil))))
      (pss_one (ps_ret (pv 3)))), ?_⟩
    have t1 := ok.t1
    have t3 := ok.t3
    refine ⟨_, rfl, p, l, cs, n, 4, rfl, hP, by decide, by decide, by omega, fun way i1 g1 H1 w0 w4 i10 in1 hp1 b1 => ?_⟩
    have P1 : Pen H1 p l cs (n + 1) := hP.next i10 in1 hp1 b1
    refine fun D hD => ⟨_, _, rfl, ?_⟩
    have sD := same_at (o := .dK []) hD
    have P2 := P1.same sD
    have hDp : D ≠ p := nep P1 hD
    have hD0 : H D = none := b1.free hDp hD
    have b2 : But H (upd H1 D (.dK [])) p := b1.same sD
    obtain ⟨H2, e2⟩ : ∃ H2, H2 = upd H1 D (.dK []) := ⟨_, rfl⟩
    have hD2 : H2 D = some (.dK []) := by rw [e2, upd_same]
    rw [← e2] at P2 b2 ⊢
    obtain ⟨dl, ll, rl, hb, hdl, hll, hrl, nd, nl, nr⟩ := hB.ex
    have hdsl : (strv d.ds).length = d.ds.length := List.length_map _
    have hd16 : d.ds.length ≤ 16 := by have := ok.le; omega
    have ndup : d.ds.Nodup := (List.nodup_append.mp ok.nd).1
    have hb2 := b2.keep hP hb (fun ys z => by cases z)
    have hdl2 := b2 _ _ nd hdl
    refine ⟨_, rfl, b, _, rfl, DGet.k (k := Sum.inr "drivers") hb2, dl, rfl, ⟨_, SqL.of hdl2⟩, ?_⟩
    refine for_list (xs := strv d.ds) (fun i σ H' => (∃ o4 o5, σ = [some (.ref p), some (.ref b), some (.int way), some (.ref D), o4, o5]) ∧ Pen H' p l cs (n + 1 + 3 * i) ∧ But H H' p ∧
        ∃ gv : List (Str × Int), H' D = some (.dK (gv.map lvRow)) ∧ (gv.map (·.1)).Sublist (d.ds.take i) ∧ ∀ q ∈ gv, 0 ≤ q.2 ∧ q.2 ≤ d.t) ⟨⟨_, _, rfl⟩, P2, b2, [], hD2, List.nil_sublist _, fun q hq => by cases hq⟩ (fun i σ H' _ h => SqL.of (h.2.2.1 _ _ nd hdl)) ?_ ?_
    · rintro i x σ H3 hx ⟨⟨o4, o5, rfl⟩, P3, b3, gv, hv3, hsub, hbd⟩
      have hi : i < d.ds.length := by rw [← hdsl]; exact (List.getElem?_eq_some_iff.mp hx).1
      have ex : (strv d.ds)[i]? = some (.str d.ds[i]) := by show (d.ds.map V.str)[i]? = _; rw [List.getElem?_map, List.getElem?_eq_getElem hi]; rfl
      rw [ex] at hx
      obtain rfl := Option.some.inj hx
      have hb3 := b3.keep hP hb (fun ys z => by cases z)
      have top : ∀ {H' : Hp}, But H3 H' p → DGet H' b (.str "top") (some (.int d.t)) := fun bb => DGet.k (k := Sum.inr "top") (bb.keep P3 hb3 (fun ys z => by cases z))
      have hn3 : n + 1 + 3 * i < 1000000 := by omega
      refine ⟨_, rfl, _, rfl, b, _, rfl, top (But.of (Same.refl _)), d.t, 1, rfl, rfl, p, l, cs, _, d.t + 1, rfl, P3, by omega, by omega, hn3, fun d1 i4 g4 H4 d10 d11 i40 in4 hp4 b4 => ?_⟩
      have P4 : Pen H4 p l cs (n + 1 + 3 * i + 1) := P3.next i40 in4 hp4 b4
      refine ⟨_, rfl, p, l, cs, _, 2, rfl, P4, by decide, by decide, by omega, fun d2 i5 g5 H5 d20 d21 i50 in5 hp5 b5 => ?_⟩
      have P5 : Pen H5 p l cs (n + 1 + 3 * i + 2) := P4.next i50 in5 hp5 b5
      have b35 := b4.trans b5
      refine ⟨_, rfl, b, _, rfl, top b35, d2, d.t, rfl, rfl, .inl ⟨by omega, by omega⟩, _, rfl, b, _, rfl, top b35, by show 4 ≤ sizeLine; decide, fun L hL => ?_⟩
      obtain ⟨far, f0, f1, hfar⟩ : ∃ far : Int, 0 ≤ far ∧ far ≤ d.t ∧ atI [V.int 0, .int d1, .int (d2 * d.t), .int d.t] way = some (.int far) := by
        have h2 : d2 = 0 ∨ d2 = 1 := by omega
        have hm : 0 ≤ d2 * d.t ∧ d2 * d.t ≤ d.t := by
          rcases h2 with e | e <;> rw [e] <;> omega
        obtain e | e | e | e : way = ((0 : Nat) : Int) ∨ way = ((1 : Nat) : Int) ∨ way = ((2 : Nat) : Int) ∨ way = ((3 : Nat) : Int) := by omega
        · exact ⟨0, Int.le_refl _, by omega, by rw [e]; exact atI_nat rfl⟩
        · exact ⟨d1, d10, by omega, by rw [e]; exact atI_nat rfl⟩
        · exact ⟨d2 * d.t, hm.1, hm.2, by rw [e]; exact atI_nat rfl⟩
        · exact ⟨d.t, by omega, Int.le_refl _, by rw [e]; exact atI_nat rfl⟩
      have s56 := same_at (o := .lst [V.int 0, .int d1, .int (d2 * d.t), .int d.t]) hL
      obtain ⟨H6, e6⟩ : ∃ H6, H6 = upd H5 L (.lst [V.int 0, .int d1, .int (d2 * d.t), .int d.t]) := ⟨_, rfl⟩
      have hL6 : H6 L = some (.lst [V.int 0, .int d1, .int (d2 * d.t), .int d.t]) := by rw [e6, upd_same]
      rw [← e6] at s56 ⊢
      have P6 := P5.same s56
      have b36 := b35.same s56
      refine ⟨_, rfl, L, _, _, _, rfl, rfl, SqL.of hL6, hfar, ?_⟩
      have hz : d.ds[i] ∉ gv.map (·.1) := fun hm => by
        obtain ⟨j, hj, ej⟩ := List.getElem_of_mem (hsub.subset hm)
        rw [List.length_take] at hj
        rw [List.getElem_take] at ej
        have := (List.getElem_inj ndup).mp ej
        omega
      have etake : d.ds.take (i + 1) = d.ds.take i ++ [d.ds[i]] := by rw [List.take_add_one, List.getElem?_eq_getElem hi]; rfl
      have skip : ∀ H7, But H3 H7 p → Pen H7 p l cs (n + 1 + 3 * i + 3) → (∃ o4 o5, [some (V.ref p), some (.ref b), some (.int way), some (.ref D), some (.str d.ds[i]), some (.int far)] = [some (.ref p), some (.ref b), some (.int way), some (.ref D), o4, o5]) ∧ Pen H7 p l cs (n + 1 + 3 * (i + 1)) ∧ But H H7 p ∧
          ∃ gv : List (Str × Int), H7 D = some (.dK (gv.map lvRow)) ∧ (gv.map (·.1)).Sublist (d.ds.take (i + 1)) ∧ ∀ q ∈ gv, 0 ≤ q.2 ∧ q.2 ≤ d.t := fun H7 b37 P7 =>
        ⟨⟨_, _, rfl⟩, P7.mono (by omega), b3.trans b37, gv, b37 _ _ hDp hv3, by rw [etake]; exact hsub.trans (List.sublist_append_left _ _), hbd⟩
      have put : ∀ H7, But H3 H7 p → Pen H7 p l cs (n + 1 + 3 * i + 3) → ∃ a H8, V.ref D = .ref a ∧ DPut H7 a (.str d.ds[i]) (.int far) H8 ∧ ((∃ o4 o5, [some (V.ref p), some (.ref b), some (.int way), some (.ref D), some (.str d.ds[i]), some (.int far)] = [some (.ref p), some (.ref b), some (.int way), some (.ref D), o4, o5]) ∧ Pen H8 p l cs (n + 1 + 3 * (i + 1)) ∧ But H H8 p ∧
          ∃ gv : List (Str × Int), H8 D = some (.dK (gv.map lvRow)) ∧ (gv.map (·.1)).Sublist (d.ds.take (i + 1)) ∧ ∀ q ∈ gv, 0 ≤ q.2 ∧ q.2 ≤ d.t) := fun H7 b37 P7 => by
        have hv7 := b37 _ _ hDp hv3
        have hgl : (gv.map lvRow).length ≤ 16 := by
          rw [List.length_map]
          have := hsub.length_le
          rw [List.length_map, List.length_take] at this
          omega
        refine ⟨D, _, rfl, DPut.k (k := Sum.inr d.ds[i]) hv7 (Nat.lt_of_le_of_lt hgl (by decide)), ⟨_, _, rfl⟩, ?_, fun c o hc e => ?_, gv ++ [(d.ds[i], far)], ?_, ?_, fun q hq => ?_⟩
        · obtain ⟨i', g', q1, q2, q3⟩ := P7
          exact ⟨i', g', by rw [upd_ne (ne_of q1 hv7 (by intro z; cases z))]; exact q1, by rw [upd_ne (ne_of q2 hv7 (by intro z; cases z))]; exact q2, q3.1, q3.2.1, by omega⟩
        · rw [upd_ne (ne_of_none e hD0)]
          exact b37 _ _ hc (b3 _ _ hc e)
        · have hout : valV (gv.map lvRow) (Sum.inr d.ds[i]) = none := by
            rw [valV_lv]
            cases q : lvG gv d.ds[i] with
            | none => rfl
            | some j => exact absurd (List.mem_map.mpr ⟨_, lvG_mem q, rfl⟩) hz
          rw [upd_same, putK_new _ hout, List.map_append]
          rfl
        · rw [List.map_append, etake]
          exact List.Sublist.append hsub (List.Sublist.refl _)
        · rcases List.mem_append.mp hq with hq | hq
          · exact hbd q hq
          · rw [List.mem_singleton.mp hq]
            exact ⟨f0, f1⟩
      refine ⟨_, rfl, rfl, _, rfl, ?_⟩
      by_cases ew : way = 1
      · rw [decide_eq_true (show V.int way = V.int 1 by rw [ew])]
        refine iteT ⟨_, rfl, _, rfl, _, rfl, ?_⟩
        exact put H6 b36 (P6.mono (by omega))
      · rw [decide_eq_false (show ¬ V.int way = V.int 1 from fun q => ew (V.int.inj q))]
        refine iteF ⟨_, rfl, p, l, cs, _, 2, rfl, P6, by decide, by decide, by omega, fun d7 i7 g7 H7 d70 d71 i70 in7 hp7 b7 => ?_⟩
        have P7 : Pen H7 p l cs (n + 1 + 3 * i + 3) := P6.next i70 in7 hp7 b7
        have b37 := b36.trans b7
        refine ⟨rfl, _, rfl, ?_⟩
        by_cases ed : d7 = 0
        · rw [decide_eq_true (show V.int d7 = V.int 0 by rw [ed])]
          refine iteT ⟨_, rfl, _, rfl, _, rfl, ?_⟩
          exact put H7 b37 P7
        · rw [decide_eq_false (show ¬ V.int d7 = V.int 0 from fun q => ed (V.int.inj q))]
          exact iteF (skip H7 b37 P7)
    · rintro σ H3 ⟨⟨o4, o5, rfl⟩, P3, b3, gv, hv3, hsub, hbd⟩
      rw [hdsl, List.take_length] at hsub
      rw [hdsl] at P3
      refine ⟨_, rfl, k D gv H3 ⟨?_, fun q hq => ⟨hsub.subset (List.mem_map.mpr ⟨q, hq, rfl⟩), hbd q hq⟩⟩ (ndup.sublist hsub) hv3 hD0 (P3.mono (by omega)) b3⟩
      have := hsub.length_le
      rw [List.length_map] at this
      omega
end
end Sj
/-! x in a tuple of texts, x any value -/
namespace Own
open PySem PySem.Spec PyProof.Rows L2 Sup
def rInS (K : PySem.W.Frag) : R2 := fun x y H Q => ∃ (t : Addr) (zs : List Str) (b : Bool), y = .ref t ∧ SqT K H t (zs.map V.str) ∧ InS K H zs x b ∧ Q (.bl b) H
def isTx (z : Str) (u : Value) : Bool := match u with | .str y _ => y == z | _ => false
theorem any_tx : ∀ {zs : List Str} {its : List Value} (z : Str), Vals (zs.map V.str) its → its.any (isTx z) = decide (z ∈ zs)
  | [], _, _, .nil => by simp
  | y :: zs, _, z, .cons r t => by
    obtain ⟨tk, rfl⟩ := r
    rw [List.any_cons, any_tx z t]
    refine Bool.eq_iff_iff.mpr ?_
    rw [Bool.or_eq_true, decide_eq_true_eq, decide_eq_true_eq, List.mem_cons]
    unfold isTx
    rw [beq_iff_eq]
    exact ⟨fun h => h.imp Eq.symm id, fun h => h.imp Eq.symm id⟩
theorem op_inS {X : Cx} (hu : X.A.in1.units < cLine) : OpR X (compareOp .In) (rInS X.K) := by
  intro pins s σ H x y v u Q I rx ry h
  obtain ⟨t, zs, b, rfl, ht, hb, q⟩ := h
  obtain rfl : u = Value.ref t := ry
  obtain ⟨its, r, pl, hz⟩ := I.tuple ht
  have fin : ∀ (e : Value → Bool), its.toArray.any e = b → (∀ y ∈ its, SeqAt.EqAt X.A.in1 s y v (e y)) → wpAny (model X.prog X.w) X.A (compareOp .In v (.ref t)) (EP X pins σ Q) X.xe s := fun e he hq => by
    refine SeqAt.in_tupleAt e pl (fun y hy => hq y (by simpa using hy)) ?_
    rw [he]
    exact ⟨.bl b, H, I, rfl, q⟩
  have no : b = false → (∀ z tk, SeqAt.EqAt X.A.in1 s (.str z tk) v false) → wpAny (model X.prog X.w) X.A (compareOp .In v (.ref t)) (EP X pins σ Q) X.xe s := fun eb hq => by
    refine fin (fun _ => false) ?_ fun y hy => ?_
    · rw [eb]
      simp
    · obtain ⟨z, _, tk, rfl⟩ := strs_of r y hy
      exact hq z tk
  cases hb with
  | str z =>
    obtain ⟨tz, rfl⟩ := rx
    refine fin (isTx z) ?_ fun y hy => ?_
    · exact (show its.toArray.any (isTx z) = its.any (isTx z) by simp).trans (any_tx z r)
    · obtain ⟨y, _, tk, rfl⟩ := strs_of r y hy
      exact SeqAt.EqAt.str_str _ _ _ _
  | non =>
    obtain rfl : v = Value.none := rx
    exact no rfl fun z tk => SeqAt.EqAt.str_none _ _
  | bl c =>
    obtain rfl : v = Value.bool c := rx
    exact no rfl fun z tk => SeqAt.EqAt.str_bool _ _ _
  | int i =>
    obtain ⟨ti, rfl⟩ := rx
    exact no rfl fun z tk => SeqAt.EqAt.str_int _ _ _ _
  | lst hq =>
    rename_i a xs
    obtain rfl : v = Value.ref a := rx
    obtain ⟨it2, _, p2, _⟩ := I.list hq
    exact no rfl fun z tk => SeqAt.EqAt.str_list _ _ p2.isList hu
  | tup hq =>
    rename_i a xs
    obtain rfl : v = Value.ref a := rx
    obtain ⟨it2, _, p2, _⟩ := I.tuple hq
    exact no rfl fun z tk => SeqAt.EqAt.str_tuple _ _ p2 hu
  | dic hq =>
    rename_i a kvs
    obtain rfl : v = Value.ref a := rx
    obtain ⟨_, _, vs, _, o, es, ep, ho, hx, hd, _⟩ := dk_of I.hok hq
    exact no rfl fun z tk => eqAt_str_dict ho hx hd hu
end Own
/-! set(t) of a tuple of texts, and sorted of such a set -/
namespace SetS
open PySem PySem.Spec PyProof.Rows L2
abbrev KS (P : Program) (w : World) := PySem.strKind P w
/-- the text that an entry holds -/
def txt (e : Int × Value) : Str := match e.2 with | .str x _ => x | _ => Str.empty
def Ent (w : World) (e : Int × Value) : Prop := ∃ x tk, e.2 = Value.str x tk ∧ e.1 = hashStr w x
/-- one more text -/
def addT (ks : List Str) (x : Str) : List Str := if x ∈ ks then ks else ks ++ [x]
/-- at a stands a set of just these texts, and it can be walked -/
def At (w : World) (h : Heap) (a : Addr) (ks : List Str) : Prop :=
  ∃ o es ep t, h.get? a = some o ∧ o.ExactSet ∧ o.data = .set es ep t ∧ ((∀ e ∈ es.toList, Ent w e) ∧ (es.toList.map txt).Perm ks) ∧ es.size < scanBound ∧ t.fits es.size = true ∧ Ris t.place.toList ∧ (w.params.followText "set-order" = true ∨ t.led = true)
section
variable {P : Program} {w : World} {h h' : Heap} {a : Addr} {ks : List Str}
theorem At.at (R : At w h a ks) (k : ∀ o, h.get? a = some o → h'.get? a = some o) : At w h' a ks := by
  obtain ⟨o, es, ep, t, ho, r⟩ := R
  exact ⟨o, es, ep, t, k o ho, r⟩
theorem ent_is {e : Int × Value} (g : Ent w e) (k : Str) : (KS P w).is k e.2 = true ↔ txt e = k := by
  obtain ⟨x, tk, h1, _⟩ := g
  unfold txt
  rw [h1]
  show ((x == k) = true) ↔ x = k
  exact beq_iff_eq
theorem ent_elems {l : List (Int × Value)} (g : ∀ e ∈ l, Ent w e) : ElemsOf (KS P w) l := fun e he => by
  obtain ⟨x, tk, h1, h2⟩ := g e he
  exact ⟨⟨x, (ent_is (g e he) x).mpr (by unfold txt; rw [h1]), h2⟩, by rw [h1] <;> rfl⟩
end
section
variable {P : Program} {w : World} {A : Around} {E : Value → Shared → Prop} {s : Shared} {a : Addr} {ks : List Str}
/-- the end of add: what is stored -/
theorem add_tail {g : Bool → Sem Unit} (hg : ∀ (b : Bool) (s₁ : Shared) (Q' : Unit → Shared → Prop), Q' () s₁ → wpAny (model P w) A (g b) Q' E s₁)
    {o : Obj} {es : Array (Int × Value)} {ep : Nat} {t : SetTable} (ho : s.heap.get? a = some o) (hex : o.ExactSet) (hd : o.data = .set es ep t)
    {es1 : Array (Int × Value)} {t2 : SetTable} (g1 : (∀ e ∈ es1.toList, Ent w e) ∧ (es1.toList.map txt).Perm ks) (hb1 : es1.size < scanBound) (hf2 : t2.fits es1.size = true) (hr : Ris t2.place.toList) (hl : w.params.followText "set-order" = true ∨ t2.led = true) {wasDummy : Bool} {R : Option Bool → Shared → Prop}
    (hR : ∀ h', Heap.SameBut a s.heap h' → At w h' a ks → R (some true) { s with heap := h' }) :
    wpAny (model P w) A (do
        storeSet a es1 t2
        if (!wasDummy && t2.tooFull) = true then do
            g (relayAll t2 es1 (SetTable.grown es1.size)).2.2
            storeSet a (relayAll t2 es1 (SetTable.grown es1.size)).1 (relayAll t2 es1 (SetTable.grown es1.size)).2.1
            pure (some true)
          else pure (some true)) R E s := by
  have b1 := Heap.SameBut.update s.heap a (Obj.putSet es1 t2)
  have o1 := store_at (es' := es1) (t' := t2) ho hd
  refine wpAny_bind (wpAny_storeSet_of ho hd ?_ (fits_of_scanBound hb1))
  split
  · have r1 := relayAll_perm t2 es1 (SetTable.grown es1.size)
    have r2 := relayAll_fits t2 es1 (SetTable.grown es1.size)
    have r3 := relayAll_ris t2 es1 (SetTable.grown es1.size)
    have r4 := relayAll_led t2 es1 (SetTable.grown es1.size)
    generalize relayAll t2 es1 (SetTable.grown es1.size) = Z at r1 r2 r3 r4 ⊢
    obtain ⟨es2, t3, gave⟩ := Z
    dsimp only at r1 r2 r3 r4 ⊢
    have hb2 : es2.size < scanBound := by rw [← Array.length_toList, r1.length_eq, Array.length_toList]; exact hb1
    refine wpAny_bind (hg _ _ _ (wpAny_bind (wpAny_storeSet_of o1 rfl (wpAny_pure (hR _ (b1.trans (Heap.SameBut.update _ a _)) ?_)) (fits_of_scanBound hb2))))
    exact ⟨_, es2, _, t3, store_at (es' := es2) (t' := t3) o1 rfl, hex, rfl, ⟨fun e he => g1.1 e (r1.mem_iff.mp he), (r1.map txt).trans g1.2⟩, hb2, r2, r3, hl.imp id fun z => by rw [r4]; exact z⟩
  · exact wpAny_pure (hR _ b1 ⟨_, es1, _, t2, o1, hex, rfl, g1, hb1, hf2, hr, hl⟩)
theorem add_text {x : Str} {tk : Tok} {Q : Bool → Shared → Prop} (R : At w s.heap a ks) (room : ks.length + 1 < scanBound) (hQ : ∀ b h', Heap.SameBut a s.heap h' → At w h' a (addT ks x) → Q b { s with heap := h' }) :
    wpAny (model P w) A (setAddHashed a (.str x tk) ((KS P w).hash x)) Q E s := by
  obtain ⟨o, es, ep, t, ho, hex, hd, ⟨g, pk⟩, hb, hf, hr, hl⟩ := R
  have hsc : (Value.str x tk).scannable = true := rfl
  have hkey : (KS P w).is x (.str x tk) = true := beq_self_eq_true x
  have hel : ElemsOf (KS P w) es.toList := ent_elems g
  have hmem : x ∈ ks ↔ ∃ e ∈ es.toList, txt e = x := by rw [← pk.mem_iff, List.mem_map]
  have hn : es.size = ks.length := by rw [← pk.length_eq, List.length_map, Array.length_toList]
  unfold setAddHashed setAddHashedIn
  refine wpAny_holding (wpAny_bind (wpAny_setState_of ho hd hf ?_))
  dsimp only
  rw [byScan_of hsc hb hel]
  simp only [↓reduceIte]
  unfold setAddByScan
  refine wpAny_bind (wpAny_bind (wpAny_rule (wpAny_bind (wpAny_setScan_of hkey ho hd hf hel ?_))))
  cases hfi : List.findIdx? (fun e => (KS P w).is x e.2) es.toList with
  | some j =>
    dsimp only
    obtain ⟨hj, pj, _⟩ := List.findIdx?_eq_some_iff_getElem.mp hfi
    have hin : x ∈ ks := hmem.mpr ⟨es.toList[j], List.getElem_mem hj, (ent_is (g _ (List.getElem_mem hj)) x).mp pj⟩
    refine wpAny_pure (wpAny_pure (hQ _ s.heap (Heap.SameBut.refl a s.heap) ?_))
    unfold addT
    rw [if_pos hin]
    exact ⟨o, es, ep, t, ho, hex, hd, ⟨g, pk⟩, hb, hf, hr, hl⟩
  | none =>
    dsimp only
    have hout : x ∉ ks := fun m => by
      obtain ⟨e, he, q⟩ := hmem.mp m
      have c := List.findIdx?_eq_none_iff.mp hfi e he
      rw [(ent_is (g e he) x).mpr q] at c
      cases c
    have r1 := layNew_perm t es ((KS P w).hash x) (.str x tk)
    have r2 := layNew_fits t es ((KS P w).hash x) (.str x tk)
    have r3 := layNew_ris t es ((KS P w).hash x) (.str x tk) hr
    have r4 := layNew_led t es ((KS P w).hash x) (.str x tk)
    generalize layNew t es ((KS P w).hash x) (.str x tk) = Z at r1 r2 r3 r4 ⊢
    obtain ⟨es1, t1, wasDummy, gave⟩ := Z
    dsimp only at r1 r2 r3 r4 ⊢
    rw [Array.toList_push] at r1
    have g1 : (∀ e ∈ es1.toList, Ent w e) ∧ (es1.toList.map txt).Perm (addT ks x) := by
      refine ⟨fun e he => ?_, ?_⟩
      · rcases List.mem_append.mp (r1.mem_iff.mp he) with z | z
        · exact g e z
        · rw [List.mem_singleton.mp z]
          exact ⟨x, tk, rfl, rfl⟩
      · unfold addT
        rw [if_neg hout]
        refine (r1.map txt).trans ?_
        rw [List.map_append]
        exact pk.append_right _
    have hb1 : es1.size < scanBound := by
      rw [← Array.length_toList, r1.length_eq, List.length_append, Array.length_toList, hn]
      exact room
    have hled : w.params.followText "set-order" = true ∨ t1.led = true := hl.imp id fun z => by rw [r4]; exact z
    refine wpAny_bind ?_
    refine (show ∀ (b : Bool) {s₁ : Shared} {Q' : Unit → Shared → Prop}, Q' () s₁ → wpAny (model P w) A (match b with | true => rule "set.scan.the-table-gave-way" | false => pure ()) Q' E s₁ from
      fun b s₁ Q' q => by cases b <;> first | exact wpAny_pure q | exact wpAny_rule q) _ ?_
    split
    · refine wpAny_bind ?_
      rw [hashByValue_scannable 8 hsc]
      refine wpAny_pure ?_
      refine add_tail ?_ ho hex hd g1 hb1 ?_ ?_ ?_ ?_
      · intro b s₁ Q' q
        cases b <;> first | exact wpAny_pure q | exact wpAny_rule q
      · first | (split <;> first | exact r2 | exact SetTable.fits_plain_off r2) | exact r2
      · first | (split <;> exact r3) | exact r3
      · first | (split <;> exact hled) | exact hled
      · intro h' sb r
        dsimp only
        exact wpAny_pure (hQ _ h' sb r)
    · refine wpAny_bind (wpAny_pure ?_)
      simp only [↓reduceIte]
      refine add_tail ?_ ho hex hd g1 hb1 r2 r3 hled ?_
      · intro b s₁ Q' q
        cases b <;> first | exact wpAny_pure q | exact wpAny_rule q
      · intro h' sb r
        dsimp only
        exact wpAny_pure (hQ _ h' sb r)
end
/-- all of them -/
def setL (xs : List Str) : List Str := xs.foldl addT []
theorem addT_len (ks : List Str) (x : Str) : (addT ks x).length ≤ ks.length + 1 := by
  unfold addT
  split
  · omega
  · rw [List.length_append]
    exact Nat.le_refl _
theorem fold_len : ∀ (xs : List Str) (ks : List Str), (xs.foldl addT ks).length ≤ ks.length + xs.length
  | [], ks => Nat.le_refl _
  | x :: xs, ks => by
    have := fold_len xs (addT ks x)
    have := addT_len ks x
    show (xs.foldl addT (addT ks x)).length ≤ ks.length + (xs.length + 1)
    omega
theorem setL_len (xs : List Str) : (setL xs).length ≤ xs.length := Nat.le_trans (fold_len xs []) (by simp)
theorem at_new {w : World} {h : Heap} {a : Addr} (ho : h.get? a = some { cls := .type "set", dict := none, data := .set #[] 0 (.fresh 0 0 (!w.params.followText "set-order")) }) : At w h a [] :=
  ⟨_, #[], 0, _, ho, ⟨rfl, rfl, rfl⟩, rfl, ⟨(fun e he => by simp at he), .refl _⟩, (by decide), (by rfl), List.Pairwise.nil, by
    show _ ∨ (!w.params.followText "set-order") = true
    cases w.params.followText "set-order"
    · exact .inr rfl
    · exact .inl rfl⟩
section
variable {P : Program} {w : World} {A : Around} {E : Value → Shared → Prop} {s : Shared}
theorem fill_texts {I : Addr} {fp wr : List Addr} {G : Array GenState → Array GenState → Prop} {n : Nat} {Pv : Nat → Value → Prop} {St : Nat → Shared → Prop} {R : Result → Shared → Prop}
    (W : WalksS P w A.in1 I fp wr G n Pv St) (S : Addr) (hSf : S ∉ fp) (xs : List Str) (hn : n = xs.length) (hb : xs.length + 1 < scanBound) (hval : ∀ i v, Pv i v → ∃ x t, xs[i]? = some x ∧ v = .str x t) :
    ∀ (k i : Nat) (s : Shared), n - i = k → i ≤ n → St i s → At w s.heap S (setL (xs.take i)) →
      (∀ s', Moved (S :: wr) G s s' → At w s'.heap S (setL xs) → R (.ok (.ret .none)) s') →
      codeAny (model P w) A (.builtin "set.update.loop" ⟨[.ref S, .ref I], []⟩) R s := by
  have out : S ∉ wr := fun h => hSf (W.sub _ h)
  have up : ∀ b ∈ wr, b ∈ S :: wr := fun b hb => List.mem_cons_of_mem _ hb
  intro k
  induction k with
  | zero =>
    intro i s hk' hi hst hS hR
    obtain rfl : i = n := by omega
    rw [List.take_of_length_le (by omega)] at hS
    refine codeAny_builtin F.entry_set_update_loop ?_
    rw [Around.under_plainId F.plain_set_update_loop _]
    refine wpAny_bind (W.done s _ _ hst fun s' hm => ?_)
    exact wpAny_pure (hR s' (hm.mono up) (hS.at fun o e => hm.heap S o out e))
  | succ k ih =>
    intro i s hk' hi hst hS hR
    have lt : i < n := by omega
    refine codeAny_builtin F.entry_set_update_loop ?_
    rw [Around.under_plainId F.plain_set_update_loop _]
    refine wpAny_bind (W.item i s _ _ lt hst fun v s' hP hst' hm => ?_)
    obtain ⟨x, t, hx, rfl⟩ := hval i v hP
    have hS' : At w s'.heap S (setL (xs.take i)) := hS.at fun o e => hm.heap S o out e
    refine wpAny_bind (wpAny_holding ?_)
    unfold setAdd
    refine wpAny_holding (wpAny_bind ((KS P w).pyHash (k := x) (beq_self_eq_true x) ?_))
    have room : (setL (xs.take i)).length + 1 < scanBound := by
      have := setL_len (xs.take i)
      rw [List.length_take] at this
      omega
    refine add_text (s := { s' with toks := s'.toks + 1 }) hS' room fun b h' hsb hS2 => ?_
    have e : addT (setL (xs.take i)) x = setL (xs.take (i + 1)) := by
      unfold setL
      rw [List.take_add_one, hx, List.foldl_append]
      rfl
    rw [e] at hS2
    refine wpAny_pure ⟨plainId_quiet F.plain_set_update_loop _, ih (i + 1) _ (by omega) lt (W.frame _ s' _ _ hst' (Nat.le_succ _) fun b hb o e => ?_) hS2 fun s'' hm'' hS'' => ?_⟩
    · rw [hsb.2 b (fun h : b = S => hSf (by rw [← h]; exact hb))]
      exact e
    · refine hR s'' (Moved.trans W.gtrans ((hm.mono up).then_heap (Nat.le_succ _) fun b o hb e => ?_) hm'') hS''
      rw [hsb.2 b (fun h : b = S => hb (by rw [h]; exact List.mem_cons_self))]
      exact e
end
/-- such a set, as what stands at an address -/
def SetX (w : World) (a : Addr) (ks : List Str) : HO := .ext fun h => At w h a ks
end SetS
/-! set(xs) of a list of texts, and how many there are -/
namespace SetS
open PySem PySem.Spec PyProof.Rows L2
section
variable {P : Program} {w : World} {A : Around} {E : Value → Shared → Prop} {s : Shared}
set_option maxHeartbeats 3200000 in
/-- set(xs) -/
theorem set_of_list {l : Addr} {items : Array Value} {xs : List Str} {Q : Value → Shared → Prop} (hh : A.handled = none) (hl : s.heap.IsList l items) (hit : PyProof.Rows.StrsAre items.toList xs) (hb : xs.length + 1 < scanBound)
    (h : ∀ (h' : Heap) (tk : Nat), At w h' s.heap.objs.size (setL xs) → (∀ b o, s.heap.get? b = some o → h'.get? b = some o) → Q (.ref s.heap.objs.size) { s with heap := h', toks := tk }) :
    wpAny (model P w) A (call (.type "set") [.ref l]) Q E s := by
  have hisz : items.size = xs.length := by rw [← PyProof.Rows.StrsAre.len_eq hit, Array.length_toList]
  obtain ⟨c, tl, hmro⟩ := F.called_set.mro
  have hmade := F.called_set.made
  have hsub := F.called_set.sub
  refine wpAny_call (codeAny_of_tree ?_)
  show wpAny _ _ (callAny (.type "set") _) _ _ _
  refine wpAny_pure ⟨Code.quiet_builtin _ (by decide +kernel), codeAny_builtin F.entry_type_call ?_⟩
  rw [Around.under_plain (weight_type_call_type "set" [.ref l] []) rfl]
  have h1 := F.called_set.notType
  have h2 := F.called_set.canCreate
  have hct := F.typeCall_set_1 (.ref l)
  repeat (any_goals (first | assumption | wp_step))
  obtain ⟨N, eN⟩ : ∃ N : Heap, N = s.heap.push { cls := .type "set", dict := none, data := .set #[] 0 (.fresh 0 0 (!w.params.followText "set-order")) } := ⟨_, rfl⟩
  refine codeAny_mono (code_set_led1 (.ref l) (E := E) (Q₁ := fun obj s₁ => obj = .ref s.heap.objs.size ∧ s₁ = { s with heap := N }) ⟨rfl, by rw [eN]⟩) fun r s₁ hr => ?_
  cases r with
  | error e => exact hr
  | ok fl =>
    cases fl with
    | ret obj =>
      obtain ⟨rfl, rfl⟩ := hr
      have hS : N.get? s.heap.objs.size = some { cls := .type "set", dict := none, data := .set #[] 0 (.fresh 0 0 (!w.params.followText "set-order")) } := by rw [eN]; exact Heap.get?_push_size _ rfl
      have hsz : N.objs.size = s.heap.objs.size + 1 := by rw [eN]; exact Heap.size_push ..
      have hold : ∀ b o, s.heap.get? b = some o → N.get? b = some o := fun b o e => by rw [eN]; exact Heap.get?_push_of_some _ e
      have hT : Shared.TypeIs { s with heap := N } (.ref s.heap.objs.size) "set" := ⟨_, hS, rfl⟩
      have hli := F.called_set.init.lookup
      have hbi := F.called_set.init.bind (.ref s.heap.objs.size)
      repeat (any_goals (first | assumption | wp_step))
      refine codeAny_mono (codeAny_call_builtin (R := wants (fun r s₂ => r = .none ∧ ∃ h' tk, s₂ = { s with heap := h', toks := tk } ∧ At w h' s.heap.objs.size (setL xs) ∧ (∀ b o, s.heap.get? b = some o → h'.get? b = some o)) E) F.called_set.init.plain F.entry_set_init (check_set_init_1 hT ?_)) fun r₂ s₂ hr₂ => ?_
      · obtain ⟨ol, hol, hcl, nl, hdl⟩ := id hl
        obtain ⟨ocls, odict, odata, oslots⟩ := ol
        simp only at hcl hdl
        subst hcl; subst hdl
        have hol' := hold l _ hol
        have hsls := F.sub_list_set
        have hslf := F.sub_list_frozenset
        have hne : (Value.type "list" == Value.type "dict") = false := by decide
        have hl1 : N.IsList l items := ⟨_, hol', rfl, nl, rfl⟩
        unfold Builtin.«set.__init__» noKeywords Builtin.Frozenset.updateFrom
        generalize hPI : pyIter = PI
        wp_walk
        subst hPI
        refine wpAny_pyIter_list hl1 ?_
        refine wpAny_bind (wpAny_runValue ?_)
        have hlS : l < s.heap.objs.size := Heap.lt_size hol
        have hneI : l ≠ N.objs.size := by rw [hsz]; exact Nat.ne_of_lt (Nat.lt_succ_of_lt hlS)
        have hSf : s.heap.objs.size ∉ [N.objs.size, l] := by
          simp only [List.mem_cons, List.mem_singleton, List.not_mem_nil, or_false, not_or]
          exact ⟨by rw [hsz]; exact Nat.ne_of_lt (Nat.lt_succ_self _), Nat.ne_of_gt hlS⟩
        have hval : ∀ (i : Nat) (v : Value), items[i]? = some v → ∃ x t, xs[i]? = some x ∧ v = .str x t := fun i v hv => by
          have hi : i < xs.length := by rw [← hisz]; exact (Array.getElem?_eq_some_iff.mp hv).1
          obtain ⟨t, e⟩ := SS.strs_at hit i v (by rw [Array.getElem?_toList]; exact hv)
          refine ⟨xs[i], t, List.getElem?_eq_getElem hi, ?_⟩
          rw [e, List.getD_eq_getElem?_getD, List.getElem?_eq_getElem hi] <;> rfl
        refine fill_texts ((Walks.list (by simp [hh]) _ l hneI items).toS) s.heap.objs.size hSf xs hisz hb hval (items.size - 0) 0 _ (by omega) (Nat.zero_le _)
          ⟨⟨_, Heap.get?_push_size _ rfl, rfl, rfl⟩, (hl1.push _)⟩ ?hS0 ?hR
        case hS0 => exact at_new (Heap.get?_push_of_some _ hS)
        case hR =>
          intro s' hm hS'
          obtain ⟨h', g2, d', tk', os'⟩ := s'
          have eg : g2 = s.gens := hm.gens
          have ed : d' = s.drawn := hm.drawn
          have eo : os' = s.os := hm.os
          subst eg; subst ed; subst eo
          refine wpAny_pure ?_
          show wpAny _ _ (ret Value.none) _ _ _
          refine wpAny_pure ⟨rfl, h', tk', rfl, hS', fun b o e => ?_⟩
          have hb0 : b < s.heap.objs.size := Heap.lt_size e
          refine hm.heap b o ?_ (Heap.get?_push_of_some _ (hold b o e))
          simp only [List.mem_cons, List.mem_singleton, List.not_mem_nil, or_false, not_or]
          exact ⟨Nat.ne_of_lt hb0, by rw [hsz]; exact Nat.ne_of_lt (Nat.lt_succ_of_lt hb0)⟩
      · cases r₂ with
        | error e => exact hr₂
        | ok fl₂ =>
          cases fl₂ with
          | ret r =>
            obtain ⟨rfl, h', tk, rfl, hS', hk'⟩ := hr₂
            repeat (any_goals (first | assumption | wp_step))
            exact h _ _ hS' hk'
          | _ => exact hr₂.elim
    | _ => exact hr.elim
end
section
variable {X : Cx}
def rSetL (K : PySem.W.Frag) (w : World) : List V → Hp → VK → Prop := fun xs H Q => ∃ (t : Addr) (zs : List Str), xs = [.ref t] ∧ SqL K H t (zs.map V.str) ∧ zs.length < 1000 ∧ ∀ p, H p = none → Q (.ref p) (upd H p (SetX w p (setL zs)))
theorem call_setL (hc : X.calm = true) : CallR X (.type "set") (rSetL X.K X.w) := by
  intro pins s σ H xs us Q I r h
  obtain ⟨t, zs, rfl, ht, hl, q⟩ := h
  obtain ⟨its, rv, pl, hz⟩ := I.list ht
  rw [Vals.ref1 r]
  refine set_of_list (I.ok.hd hc) pl.isList rv.strs (by unfold scanBound; omega) fun h' tk hA hk => ?_
  exact ⟨.ref _, upd H s.heap.objs.size (SetX X.w s.heap.objs.size (setL zs)), I.laid (t' := tk) hk (Nat.le_refl _) ⟨hA, hA.elim fun o h => h.elim fun _ h => h.elim fun _ h => h.elim fun _ h => ⟨o, h.1⟩, fun h1 h2 p k => At.at p k⟩, rfl, q _ (I.hok.fresh (Nat.le_refl _))⟩
theorem setL_same {zs : List Str} (h : zs.Nodup) : setL zs = zs := by
  have go : ∀ (xs ks : List Str), (ks ++ xs).Nodup → xs.foldl addT ks = ks ++ xs := by
    intro xs
    induction xs with
    | nil => intro ks _; rw [List.append_nil]; rfl
    | cons x xs ih =>
      intro ks h
      have hx : x ∉ ks := fun m => (List.nodup_append.mp h).2.2 x m x List.mem_cons_self rfl
      show xs.foldl addT (addT ks x) = _
      rw [show addT ks x = ks ++ [x] from if_neg hx, ih _ (by rw [List.append_assoc]; exact h), List.append_assoc]
      rfl
  exact (go zs [] h).trans rfl
/-- len(set) -/
def rLenX (w : World) : List V → Hp → VK → Prop := fun xs H Q => ∃ (a : Addr) (ks : List Str), xs = [.ref a] ∧ H a = some (SetX w a ks) ∧ Q (.int (ks.length : Nat)) H
theorem At.setOf {P : Program} {w : World} {h : Heap} {a : Addr} {ks : List Str} (R : At w h a ks) : h.SetOf (KS P w) a (fun k => decide (k ∈ ks)) ks.length := by
  obtain ⟨o, es, ep, t, ho, hx, hd, ⟨g, pk⟩, hb, hf, _⟩ := R
  refine ⟨o, es, ep, t, ho, hx, hd, ent_elems g, fun k => ?_, hb, hf, by rw [← pk.length_eq, List.length_map, Array.length_toList]⟩
  rw [decide_eq_true_eq, ← pk.mem_iff, List.mem_map]
  exact ⟨fun ⟨e, he, q⟩ => ⟨e, he, (ent_is (g e he) k).mpr q⟩, fun ⟨e, he, q⟩ => ⟨e, he, (ent_is (g e he) k).mp q⟩⟩
theorem call_lenX : CallR X (.builtin "len") (rLenX X.w) := by
  intro pins s σ H xs us Q I r h
  obtain ⟨p, ks, rfl, hp, q⟩ := h
  obtain ⟨u, rfl, rx⟩ := vals1 r
  cases rx
  obtain ⟨o, es, ep, t, ho, hex, hd, _, _, hb, hf, hn⟩ := At.setOf (P := X.prog) (I.hok p _ hp).1
  exact call_len_set ho hex hd hf (Int.lt_trans (Int.ofNat_lt.mpr hb) (by decide)) ⟨.int ks.length, H, I.tok _, ⟨_, by rw [hn]⟩, q⟩
end
end SetS
/-! try: .. / except x as e: c = e, and what c holds behind it -/
namespace KepE
open PySem PySem.Spec PyProof.Rows L2
/-- a caught exception at a: its class, its dict -/
def Kept (a : Addr) (cls : Value) (d : Option Addr) : HO := .ext fun h => ∃ (oe : Obj) (vs : Array Value), h.get? a = some oe ∧ Zc cls d oe ∧ oe.data = .fields vs
section
variable {X : Cx} {pins : List (Addr × Obj)} {s : Shared} {σ : L2.St} {H : Hp} {a : Addr}
/-- an object that was made since the entry is followed from now on -/
theorem track {o : HO} (I : Inv X pins σ H s) (h0 : X.s_0.heap.get? a = none) (hn : H a = none) (nL : a ≠ X.env.locals) (nC : ∀ x c, X.env.cells.lookup x = some c → c ≠ a) (nP : ∀ p ∈ X.pn ++ pins, p.1 ≠ a) (new : ObjOk X.prog X.w (upd H a o) s.heap a o) : Inv X pins σ (upd H a o) s := by
  have ne : ∀ {b : Addr} {u : HO}, H b = some u → b ≠ a := fun e => ne_of_none e hn
  refine ⟨I.ok, I.os, I.bare, ⟨I.base.keep, I.base.slot, fun b u q n hx => ?_, I.base.there, fun b xs q => ?_, fun b u v q => ?_, fun b ps q => ?_⟩, I.loc, I.cell, ?_, fun x c e => ?_, fun p hp => ?_, I.hok.laidN (fun _ _ e => e) hn new, I.len⟩
  · rw [upd_ne (fun z => by rw [z, h0] at q; cases q)]
    exact I.base.free b u q n hx
  · have e := I.base.tups b xs q
    rw [upd_ne (ne e)]
    exact e
  · have e := I.base.frzs b u v q
    rw [upd_ne (ne e)]
    exact e
  · obtain ⟨more, e⟩ := I.base.tbls b ps q
    exact ⟨more, by rw [upd_ne (ne e)]; exact e⟩
  · rw [upd_ne (Ne.symm nL)]
    exact I.free
  · rw [upd_ne (nC x c e)]
    exact I.freeC x c e
  · obtain ⟨p1, p2, p3⟩ := I.pin p hp
    exact ⟨p1, by rw [upd_ne (nP p hp)]; exact p2, p3⟩
end
/-- what the clause 'except x as e: c = e' wishes of the body's exception: e in the slot i, c in the slot j -/
def wKeep (K : PySem.W.Frag) (c : Value) (i j : Nat) (D : Ends) : WX := fun cls d σ H => PySem.W.exmOne K cls c = some true ∧ ∀ a, H a = none → D.nx (((σ.set i (some (.ref a))).set j (some (.ref a))).set i none) (upd H a (Kept a cls d))
section
variable {X : Cx} {x n m : Str} {c : Value} {i j : Nat} {body : List Stmt} {np p1 p2 p3 pos pos' : Pos} {tb : WX → TS}
/-- the suite: c = e, then the name e goes; the exception is followed -/
theorem suite_keep {pins : List (Addr × Obj)} {s5 : Shared} {σ : L2.St} {H : Hp} {a : Addr} {oe : Obj} {vs : Array Value} {cls : Value} {d : Option Addr} {D : Ends} {E : Value → Shared → Prop} (ok : X.Ok) (hN : X.N.Nodup) (hi : X.N[i]? = some n) (hln : X.env.kindOf n = some .local) (hj : X.N[j]? = some m) (hlm : X.env.scope.names.lookup m = some .local)
    (hdn : (n == ("__debug__" : Str)) = false) (hcn : (n == ("__classdict__" : Str)) = false) (h0 : X.s_0.heap.get? a = none) (hP : ∀ p ∈ X.pn ++ pins, p.1 ≠ a) (hz : Zc cls d oe) (hd : oe.data = .fields vs) (hs : swapsWith (.Name n p2) (some (.Name m p1)) p3.line X.env = pure false) (hlt : i < σ.length)
    (S : Inv (X.suite a ((a, oe) :: (X.pn ++ pins))) [] (σ.set i (some (.ref a))) H s5) (q : D.nx (((σ.set i (some (.ref a))).set j (some (.ref a))).set i none) (upd H a (Kept a cls d))) :
    wpAny (model X.prog X.w) (X.A.mark (some (.ref a))) (execs [.Assign [.Name m p1] (.Name n p2) p3] X.env) (fun f s6 => wpAny (model X.prog X.w) X.A (do bindName X.env n .none; unbindBehindTheSuite X.env n pos') (fun _ s7 => SP X pins D f s7) X.xe s6) E s5 := by
  have st : PSs (X.suite a ((a, oe) :: (X.pn ++ pins))) [.Assign [.Name m p1] (.Name n p2) p3] (tAsg (tVar i) (gName j)) := pss_one (ps_set (X := X.suite a ((a, oe) :: (X.pn ++ pins))) hN hj (.inl hlm) (pe_var hi (.inl hln) hdn hcn) hs (.inr hlm))
  refine wpAny_mono (st.run [] s5 _ H { nx := fun σ' H' => σ' = (σ.set i (some (.ref a))).set j (some (.ref a)) ∧ H' = H, rt := fun _ _ => False, bk := fun _ _ => False, ct := fun _ _ => False } S ⟨.ref a, by rw [List.getElem?_set_self hlt], rfl, rfl⟩) (fun f s6 r => ?_) (fun _ _ z => False.elim z)
  match f, r with
  | .next, r =>
    obtain ⟨σ6, H6, S6, rfl, rfl⟩ := r
    obtain ⟨e6, na, nL, _, _⟩ := S6.pin (a, oe) (List.mem_append_left _ List.mem_cons_self)
    have nC : ∀ y c, X.env.cells.lookup y = some c → c ≠ a := fun y c e z => by
      obtain ⟨v, o, ho, hv⟩ := S6.cell y c e
      rw [z, e6] at ho
      obtain rfl := Option.some.inj ho
      rw [hd] at hv
      cases hv
    exact gone_ok (track (o := Kept a cls d) (S6.unsuite ok) h0 na nL nC hP ⟨⟨oe, vs, e6, hz, hd⟩, ⟨oe, e6⟩, fun _ _ ⟨o, v, q, r⟩ k => ⟨o, v, k o q, r⟩⟩) hN hi hln fun s7 J7 => ⟨_, _, J7, q⟩
  | .ret u, r =>
    obtain ⟨_, _, _, _, _, z⟩ := r
    exact z.elim
  | .brk, r =>
    obtain ⟨_, _, _, z⟩ := r
    exact z.elim
  | .cont, r =>
    obtain ⟨_, _, _, z⟩ := r
    exact z.elim
/-- try: body / except x as n: m = n -/
theorem ps_try_keep (hs : X.stack = X.env :: X.outer) (hf : X.env.frame = some X.env.locals) (hex : X.ex = []) (hN : X.N.Nodup) (hi : X.N[i]? = some n) (hln : X.env.kindOf n = some .local) (hj : X.N[j]? = some m) (hlm : X.env.scope.names.lookup m = some .local) (hc : Names X x c)
    (hb : ∀ (W : WX) (pn : List (Addr × Obj)) (xe : Value → Shared → Prop), Takes (X.tr pn xe) W → PassesOwn (model X.prog X.w) X.A X.env xe → PSs (X.tr pn xe) body (tb W))
    (hdn : (n == ("__debug__" : Str)) = false := by decide) (hcn : (n == ("__classdict__" : Str)) = false := by decide) (hsw : swapsWith (.Name n p2) (some (.Name m p1)) p3.line X.env = pure false := by rfl) :
    PS X (.Try body [.ExceptHandler (some (.Name x np)) (some n) [.Assign [.Name m p1] (.Name n p2) p3] pos'] [] [] pos) (fun D σ H => tb (wKeep X.K c i j D) D σ H) := by
  refine ⟨fun pins s σ H D I h => wpAny_Try_except ?_⟩
  have ok := I.ok
  have hfr : X.A.frames = some (X.env :: X.outer) := by rw [ok.frames, hs]
  refine wpAny_mono ((hb (wKeep X.K c i j D) (X.pn ++ pins) (fun e s₁ => wpAny (model X.prog X.w) X.A (noteFrame e X.env) (fun _ s₂ => wpAny (model X.prog X.w) X.A (setFlight e none) (fun _ s₃ =>
    wpAny (model X.prog X.w) X.A (handleBy e X.env [.ExceptHandler (some (.Name x np)) (some n) [.Assign [.Name m p1] (.Name n p2) p3] pos']) (SP X pins D) X.xe s₃) X.xe s₂) X.xe s₁) (fun u s' xx => ?_) PassesOwn.looking).run [] s σ H D (I.toTry _) h) (fun f s1 hsp => ?_) fun _ _ z => z
  · obtain ⟨a, B, sI, _, σ', H', cls, d, rfl, J', nb, up, sky, na, os, ag, hm, hq⟩ := xx
    have J : Inv X pins σ' H' sI := J'.ofTry ok
    rw [show (X.tr (X.pn ++ pins) _).stack = X.env :: X.outer from hs] at sky
    refine Sky.land Zc.steady hfr hf sky fun h3 fl3 up3 => ?_
    have back : ∀ {h : Heap}, HandSPX.FlyingZ B (X.env :: X.outer) a (Zc cls d) h → sI.heap.UpToSlots h → ∃ oe vs, h.get? a = some oe ∧ Zc cls d oe ∧ oe.data = .fields vs ∧ a ∉ frs (X.env :: X.outer) ∧ Inv X pins σ' H' { s' with heap := h } := fun {h} fl u => by
      obtain ⟨oe, vs, he, hz, hd⟩ := fl.there
      refine ⟨oe, vs, he, hz, hd, fun hm => ?_, J.landed nb fl.1 u os ag⟩
      obtain ⟨_, o', e', hnf⟩ := fl.2.2.1.mem hm
      rw [he] at e'
      cases e'
      exact hnf _ hd
    obtain ⟨oe3, vs3, he3, hz3, hd3, nfr, J3⟩ := back fl3 (up.trans up3)
    have nI : sI.heap.get? a = none := by
      cases e : sI.heap.get? a with
      | none => rfl
      | some o =>
        have z := nb a o e (by rw [hs]; exact nfr)
        rw [fl3.2.1] at z
        cases z
    have n0 : X.s_0.heap.get? a = none := by
      cases e : X.s_0.heap.get? a with
      | none => rfl
      | some o =>
        obtain ⟨o', z⟩ := J.base.there a o e (by rw [hex]; exact List.not_mem_nil)
        rw [nI] at z
        cases z
    have nL : a ≠ X.env.locals := fun z => nfr (List.mem_filterMap.mpr ⟨X.env, List.mem_cons_self, by rw [hf, z]⟩)
    have nF : a ∉ X.fs := fun hm => by
      obtain ⟨e, he, q⟩ := List.mem_filterMap.mp hm
      exact nfr (List.mem_filterMap.mpr ⟨e, List.mem_cons_of_mem _ he, q⟩)
    have nP : ∀ p ∈ X.pn ++ pins, p.1 ≠ a := fun p hp z => by
      have e := (J.pin p hp).1
      rw [z, nI] at e
      cases e
    have hlt : i < σ'.length := by
      rw [J.len]
      exact (List.getElem?_eq_some_iff.mp hi).1
    refine wpAny_handleBy_cons (codeAny_handlers_test ?_) (fun q => nomatch q)
    have S3 := J3.suite he3 hd3 na nL nF
    have LT : PySem.W.Looks (model X.prog X.w) h3 (typeOf (.ref a)) cls := fun A Q E s k q => wpAny_typeOf_ref (k _ _ he3) (by rw [hz3.1]; exact q)
    have hit := PySem.W.exm_one (M := model X.prog X.w) J3.kIn LT hm
    have named : ∀ {Q : Value → Shared → Prop} {E : Value → Shared → Prop}, Q c { s' with heap := h3 } → wpAny (model X.prog X.w) (X.A.mark (some (.ref a))) (eval (.Name x np) X.env) Q E { s' with heap := h3 } := fun {Q E} q => by
      obtain ⟨hg, hdbg, hm | ⟨hm, hv, hnn⟩⟩ := hc
      · exact ld_glob (X := X.suite a ((a, oe3) :: (X.pn ++ pins))) S3 hg hm q hdbg
      · exact ld_blt (X := X.suite a ((a, oe3) :: (X.pn ++ pins))) S3 hg hm hv q hnn hdbg
    refine named (hit.here (codeAny_handlers_suite_as (HandSPX.lands_againZ fl3 fun h4 fl4 up4 => ?_)))
    obtain ⟨oe4, vs4, he4, hz4, hd4, _, J4⟩ := back fl4 ((up.trans up3).trans up4)
    refine store_ok (X := X.suite a ((a, oe4) :: (X.pn ++ pins))) (v := .ref a) (J4.suite he4 hd4 na nL nF) hN hi (.inl hln) rfl (fun s5 S5 => ?_) (.inr hln)
    exact suite_keep ok hN hi hln hj hlm hdn hcn n0 nP hz4 hd4 hsw hlt S5 (hq a na)
  · cases f with
    | next =>
      obtain ⟨σ', H', J', q⟩ := hsp
      exact wpAny_execs_nil ⟨σ', H', J'.ofTry ok, q⟩
    | brk =>
      obtain ⟨σ', H', J', q⟩ := hsp
      exact ⟨σ', H', J'.ofTry ok, q⟩
    | cont =>
      obtain ⟨σ', H', J', q⟩ := hsp
      exact ⟨σ', H', J'.ofTry ok, q⟩
    | ret u =>
      obtain ⟨v, σ', H', J', r, q⟩ := hsp
      exact ⟨v, σ', H', J'.ofTry ok, r, q⟩
end
/-! ### what is kept -/
/-- the facts for an own error's fields and classes -/
structure KeT (K : PySem.W.Frag) (C : Addr) : Prop where
  cl : (PySem.W.clsIn K C).isSome = true
  ga : PySem.W.findIn K (.ref C) "__getattribute__" = some (some (.builtin "BaseException.__getattribute__"))
  gg : PySem.W.findIn K (.ref C) "__getattr__" = some none
  exC : PySem.W.subIn K (.ref C) (.type "BaseException") = some true
  hdC : PySem.W.hasDictIn K C = true
  ca : PySem.W.findIn K (.ref C) "__class__" = some (some (.builtin "object.__class__"))
  cn : PySem.W.specialIn K (.builtin "object.__class__") "__get__" = some (some (.builtin "getset_descriptor.__get__"))
  ct : PySem.W.takesIn K (.builtin "object.__class__") = some true
  ob : PySem.W.mroIn K C (.type "object") = some true
/-- an error of the class at C with the fields fs is kept at a -/
def KeAt (H : Hp) (a C : Addr) (fs : List (Str × V)) : Prop := ∃ dd, H a = some (Kept a (.ref C) (some dd)) ∧ H dd = some (.xd fs)
theorem KeAt.inst {X : Cx} {pins : List (Addr × Obj)} {s : Shared} {σ : L2.St} {H : Hp} {a C : Addr} {fs : List (Str × V)} (I : Inv X pins σ H s) (h : KeAt H a C fs) : ∃ (ox od : Obj) (mA : Str → Option Value), PySem.W.InstAt s.heap a ox C (some od) ∧ (∀ f, PySem.W.lookIn f od = some (mA f)) ∧ ∀ f, RelO (fs.lookup f) (mA f) := by
  obtain ⟨dd, e1, e2⟩ := h
  obtain ⟨⟨oe, vs, ha, hz, hd⟩, _⟩ := I.hok a _ e1
  obtain ⟨mA, hns, hr⟩ := (show ObjOk X.prog X.w H s.heap dd (.xd fs) from I.hok dd _ e2)
  obtain ⟨od, ho, hl⟩ := lookIn_ns hns
  exact ⟨oe, od, mA, ⟨ha, hz.1, by unfold PySem.W.notCls; rw [hd] <;> rfl, by rw [hz.2]; exact ho⟩, hl, hr⟩
def tFldK (K : PySem.W.Frag) (n : Str) (te : TE) : TE := fun σ H Q => te σ H fun x H1 => ∃ a C fs v, x = .ref a ∧ KeAt H1 a C fs ∧ KeT K C ∧ PySem.W.findIn K (.ref C) n = some none ∧ fs.lookup n = some v ∧ Q v H1
theorem pe_fldK {X : Cx} {e : Expr} {te : TE} {pos : Pos} {n : Str} (he : PE X e te) (hb : attributeBase e n X.env (eval e X.env) = eval e X.env := by rfl) : PE X (.Attribute e n pos) (tFldK X.K n te) := by
  refine ⟨fun pins s σ H Q I h => attr_of hb (thn (he.run pins s σ H _ I h) ?_)⟩
  rintro u s1 ⟨x, H1, I1, rx, a, C, fs, v, rfl, hk, T, hno, l, q⟩
  cases rx
  obtain ⟨ox, od, mA, J, hl, hr⟩ := hk.inst I1
  obtain ⟨u, hu, ru⟩ := RelO.some_of (v := v) (o := mA n) (by rw [← l]; exact hr n)
  exact HandSPX.exc_get I1.kIn J T.ga T.gg T.exC (PySem.W.findObj_own T.hdC hno rfl (by rw [hl, hu])) (handed_of ru) ⟨v, H1, I1.tok _, ru, q⟩
/-- isinstance(e, c), e a kept error -/
def rIsKe (K : PySem.W.Frag) : List V → Hp → VK → Prop := fun xs H Q => ∃ (a C : Addr) (fs : List (Str × V)) (c : V) (u : Value) (b : Bool), xs = [.ref a, c] ∧ ClsV c u ∧ KeAt H a C fs ∧ KeT K C ∧ PySem.W.kitOne K (.ref C) u = some b ∧ Q (.bl b) H
theorem call_isKe {X : Cx} : CallR X (.builtin "isinstance") (rIsKe X.K) := by
  intro pins s σ H xs us Q I r h
  obtain ⟨a, C, fs, c, u, b, rfl, k, hx, T, e, q⟩ := h
  obtain ⟨u1, u2, rfl, r1, r2⟩ := vals2 r
  cases r1
  obtain rfl := k.eq r2
  obtain ⟨ox, od, _, J, _⟩ := hx.inst I
  exact PySem.W.kia_one (PySem.W.kitx_exc T.cl T.ga T.gg T.exC T.ca T.cn T.ct T.ob) I.kIn J e (fun z => nomatch z) fun tk => ⟨.bl b, H, I.kept (t' := tk) fun _ _ z => z, ⟨rfl, q⟩⟩
end KepE
namespace Sj
open PySem PySem.Spec PyProof.Rows L2 Sup
/-! k09: over a list or a tuple; [.. for x in xs for y in x] -/
section
variable {X : Cx} {tg : Expr}
def iSeq (K : PySem.W.Frag) (tl : TE) : TI := fun σ H R => tl σ H fun x H1 => ∃ a, x = .ref a ∧ (((∃ xs, SqL K H1 a xs) ∧ R (Itl K a) H1) ∨ ((∃ xs, SqT K H1 a xs) ∧ R (Itt K a) H1))
theorem pi_seq {l : Expr} {tl : TE} (hl : PE X l tl) : PI X tg l (iSeq X.K tl) := by
  refine ⟨fun pins s σ H R I h => thn (hl.run pins s σ H _ I h) fun v s1 ⟨x, H1, I1, r1, a, e, q⟩ => ?_⟩
  subst e
  cases r1
  have new : ∀ {c : Addr}, c ∈ [s1.heap.objs.size] → FpOk X pins H1 c ∧ True := fun {c} hc => ⟨by rw [List.mem_singleton.mp hc]; exact I1.fpOk (Nat.le_refl _) (I1.hok.fresh (Nat.le_refl _)), trivial⟩
  rcases q with ⟨⟨xs, hq⟩, q⟩ | ⟨⟨xs, hq⟩, q⟩
  · obtain ⟨its, rv, p, hz⟩ := I1.list hq
    exact wpAny_pyIter_list p.isList ⟨s1.heap.objs.size, [s1.heap.objs.size], _, _, H1, rfl, I1.kept (t' := s1.toks) fun b o e => Heap.get?_push_of_some _ e, turn_list a _, ⟨_, Heap.get?_push_size _ rfl, rfl, rfl⟩, fun b hb => (new hb).1, q⟩
  · obtain ⟨its, rv, p, hz⟩ := I1.tuple hq
    exact wpAny_pyIter_tuple (show s1.heap.IsTuple a its.toArray from p) ⟨s1.heap.objs.size, [s1.heap.objs.size], _, _, H1, rfl, I1.kept (t' := s1.toks) fun b o e => Heap.get?_push_of_some _ e, turn_tuple a _, ⟨_, Heap.get?_push_size _ rfl, rfl, rfl⟩, fun b hb => (new hb).1, q⟩
end
/-- the inner loop -/
def InLoop (J1 : It) (g1 : TG) (tt1 : TT) (te : TE) (vs1 : List Nat) (D : Addr) (σ2 : L2.St) (H4 : Hp) (Nx : Hp → Prop) : Prop := ∃ W1 : Nat → Nat → Hp → Prop, (∃ m, W1 0 m H4) ∧ ∀ j k H, W1 j k H →
  (J1.stop j H ∧ Nx H) ∨ (J1.go j H ∧ ∃ Nx1 : Hp → Prop, (∀ H', Nx1 H' → ∃ k', k' < k ∧ W1 (j + 1) k' H') ∧ ∀ x H', J1.yld j H x H' → g1 x (wipe σ2 vs1) H' fun σ3 H5 => wipe σ3 vs1 = wipe σ2 vs1 ∧ tt1 σ3 H5 fun b H6 =>
    if b = true then te σ3 H6 fun y H7 => ∃ acc, H7 D = some (.lst acc) ∧ acc.length < sizeLine ∧ Nx1 (upd H7 D (.lst (acc ++ [y]))) else Nx1 H6)
theorem in_it {J1 : It} {n : Nat} {G : Hp → Prop} {Y : Nat → Hp → V → Hp → Prop} (wk : Walk J1 n G Y) {g1 : TG} {tt1 : TT} {te : TE} {vs1 : List Nat} {D : Addr} {σ2 : L2.St} {H4 : Hp} {Nx : Hp → Prop} (Pv : Nat → Hp → Prop) (h0 : Pv 0 H4) (hG : ∀ i H, i ≤ n → Pv i H → G H)
    (hs : ∀ j x H H', j < n → Pv j H → Y j H x H' → g1 x (wipe σ2 vs1) H' fun σ3 H5 => wipe σ3 vs1 = wipe σ2 vs1 ∧ tt1 σ3 H5 fun b H6 => if b = true then te σ3 H6 fun y H7 => ∃ acc, H7 D = some (.lst acc) ∧ acc.length < sizeLine ∧ Pv (j + 1) (upd H7 D (.lst (acc ++ [y]))) else Pv (j + 1) H6)
    (hd : ∀ H, Pv n H → Nx H) : InLoop J1 g1 tt1 te vs1 D σ2 H4 Nx := by
  refine ⟨fun j k H => k + j = n ∧ Pv j H, ⟨n, rfl, h0⟩, fun j k H ⟨e, q⟩ => ?_⟩
  match k, e with
  | 0, e =>
    obtain rfl : j = n := by omega
    exact .inl ⟨wk.stops H (hG _ _ (Nat.le_refl _) q), hd H q⟩
  | k + 1, e => exact .inr ⟨wk.goes j H (by omega) (hG _ _ (by omega) q), Pv (j + 1), fun H' p' => ⟨k, Nat.lt_succ_self k, by omega, p'⟩, fun x H' y => hs j x H H' (by omega) q (wk.yields j H x H' (by omega) (hG _ _ (by omega) q) y)⟩
theorem lc2_it {J : It} {n : Nat} {G : Hp → Prop} {Y : Nat → Hp → V → Hp → Prop} (wk : Walk J n G Y) {g g1 : TG} {tt tt1 : TT} {wi1 : TI} {te : TE} {vs vs1 : List Nat} {σ : L2.St} {H1 : Hp} {D : Addr} {Qd : Hp → Prop} (Pv : Nat → Hp → Prop) (h0 : Pv 0 (upd H1 D (.lst []))) (hG : ∀ i H, i ≤ n → Pv i H → G H)
    (hs : ∀ i x H H', i < n → Pv i H → Y i H x H' → g x (wipe σ vs) H' fun σ2 H2 => wipe σ2 vs = wipe σ vs ∧ tt σ2 H2 fun b H3 => if b = true then wi1 σ2 H3 fun J1 H4 => InLoop J1 g1 tt1 te vs1 D σ2 H4 (Pv (i + 1)) else Pv (i + 1) H3) (hd : ∀ H, Pv n H → Qd H) :
    ∃ W : Nat → Nat → Hp → Prop, (∃ m, W 0 m (upd H1 D (.lst []))) ∧ ∀ i m H, W i m H →
      (J.stop i H ∧ Qd H) ∨ (J.go i H ∧ ∃ Nx : Hp → Prop, (∀ H', Nx H' → ∃ m', m' < m ∧ W (i + 1) m' H') ∧ ∀ x H', J.yld i H x H' → g x (wipe σ vs) H' fun σ2 H2 => wipe σ2 vs = wipe σ vs ∧ tt σ2 H2 fun b H3 =>
        if b = true then wi1 σ2 H3 fun J1 H4 => InLoop J1 g1 tt1 te vs1 D σ2 H4 Nx else Nx H3) := by
  refine ⟨fun i m H => m + i = n ∧ Pv i H, ⟨n, rfl, h0⟩, fun i m H ⟨e, q⟩ => ?_⟩
  match m, e with
  | 0, e =>
    obtain rfl : i = n := by omega
    exact .inl ⟨wk.stops H (hG _ _ (Nat.le_refl _) q), hd H q⟩
  | m + 1, e => exact .inr ⟨wk.goes i H (by omega) (hG _ _ (by omega) q), Pv (i + 1), fun H' p' => ⟨m, Nat.lt_succ_self m, by omega, p'⟩, fun x H' y => hs i x H H' (by omega) q (wk.yields i H x H' (by omega) (hG _ _ (by omega) q) y)⟩
end Sj
namespace Sj
open PySem L2 Sup StK Own Shw Exg Grd KepE
open NdefX (NF NScope ncx envF startF nscope_by)
open C8 (pss_cut tCut)
/-! what k65 shares with k09's text B9b -/
def lenR (K : PySem.W.Frag) : List V → Hp → VK → Prop := fun xs H Q => ∃ p ys, xs = [V.ref p] ∧ (SqL K H p ys ∨ SqT K H p ys) ∧ Q (.int ys.length) H
theorem call_lenK {X : Cx} : CallR X (.builtin "len") (lenR X.K) := call_len_seq
def allN (Bl : List (Addr × List Str)) : List Str := Bl.flatMap (·.2)
theorem allN_snoc {Bl : List (Addr × List Str)} {i : Nat} {y : Addr × List Str} (h : Bl[i]? = some y) : allN (Bl.take (i + 1)) = allN (Bl.take i) ++ y.2 := by
  unfold allN
  rw [List.take_add_one, h, Option.toList_some, List.flatMap_append]
  simp
/-- rows of texts, each a list or a tuple, empty or not -/
def RowAt (H : Hp) (Bl : List (Addr × List Str)) : Prop := ∀ x ∈ Bl, H x.1 = some (.lst (strv x.2)) ∨ H x.1 = some (.tup (strv x.2))
theorem RowAt.same {H H' : Hp} {Bl : List (Addr × List Str)} (h : RowAt H Bl) (s : Same H H') : RowAt H' Bl := fun x hx => (h x hx).imp (s _ _) (s _ _)
def refsB (Bl : List (Addr × List Str)) : List V := Bl.map fun y => V.ref y.1
theorem refsB_len (Bl : List (Addr × List Str)) : (refsB Bl).length = Bl.length := List.length_map _
theorem refsB_at {Bl : List (Addr × List Str)} {i : Nat} {x : V} (h : (refsB Bl)[i]? = some x) : ∃ y ∈ Bl, Bl[i]? = some y ∧ x = .ref y.1 := by
  unfold refsB at h
  rw [List.getElem?_map] at h
  cases e : Bl[i]? with
  | none => rw [e] at h; cases h
  | some y => rw [e] at h; exact ⟨y, List.mem_of_getElem? e, rfl, (Option.some.inj h).symm⟩
end Sj
namespace Own
open PySem PySem.Spec PyProof.Rows L2 Sup Grd
section
variable {X : Cx} {CX : CXT} {pins : List (Addr × Obj)} {σ : L2.St} {H : Hp} {s : Shared} {k : Nat} {C f : Addr} {fd : FuncData} {ps : List Str} {sp : Sp} {E : XK}
theorem call_lenN (M : MetN X.prog X.w X.K X.mg X.base CX0 k C "__len__" ps sp) (hr : Room (k + 1) X.A) : CallR X (.builtin "len") (rLenO C sp) := by
  obtain ⟨f, fd, h1, h2, _, F, hb⟩ := M
  intro pins s σ H xs us Q I r h
  obtain ⟨a, dx, fs, rfl, ha, h⟩ := h
  obtain ⟨u, rfl, rx⟩ := vals1 r
  obtain rfl : u = Value.ref a := rx
  obtain ⟨mA, O, _⟩ := ins_get I.hok ha
  obtain ⟨od, J, _⟩ := O.look
  obtain ⟨m, Fr⟩ := I.fr
  refine PySem.W.len_K Fr I.mod.kin J h1 h2 (wpAny_mono (run_atN (vs := [.ref a]) F hr.in1 hb I.env0.in1 (E' := X.xe) (fun e s' z => False.elim z) I (.cons rfl .nil) h) (fun v s1 ⟨z, H1, I1, rv, n, ez, hn, q⟩ => ?_) fun _ _ z => z)
  subst ez
  obtain ⟨t, rfl⟩ := rv
  exact ⟨⟨by omega, by omega⟩, .int n, H1, I1.tok _, ⟨_, rfl⟩, q⟩
end
end Own
namespace Sj
open PySem L2 Sup StK Own Shw Exg Grd KepE
open NdefX (NF NScope ncx envF startF nscope_by)
open C8 (pss_cut tCut)
/-! k65: wrong_parts, where all is well -/
abbrev sWp : Stmt := top 33
abbrev nWp : List Str := ["frame", "parts", "names", "part", "name"]
theorem scWp : FnScope nWp ["frame", "parts"] (defScope sWp) := ⟨rfl, rfl, rfl, by decide +kernel, rfl, by decide +kernel, by decide +kernel⟩
def teP1 (K : PySem.W.Frag) : TE := tCB (rIsiT K) (tCons (tVar 3) (tCons (tTup (tCons (tC (.ty "list")) (tCons (tC (.ty "tuple")) tNil))) tNil))
def teP3 (K : PySem.W.Frag) (ks : Kinds) (CF : Addr) : TE := tOp (rInO CF false (spFIs K ks CF)) (tVar 4) (tVar 0)
structure WpT (P : Program) (w : World) (K : PySem.W.Frag) (mg : Str → Option Value) (base : Heap) (ks : Kinds) (CF CC : Addr) : Prop where
  in_ : MetN P w K mg base CX0 1 CF "__contains__" ["self", "x"] (spFIs K ks CF)
  len_ : MetN P w K mg base CX0 1 CF "__len__" ["self"] (spFLen CF)
  mC : mg "Chain" = some (.ref CC)
  most : ∃ mc u, ClX.CRead K CC mc ∧ ClX.CVal K CC mc "MOST" (.int 8) u
  isi : mg "isinstance" = none
  all : mg "all" = none
  len : mg "len" = none
  set : mg "set" = none
  list : mg "list" = none
  tuple : mg "tuple" = none
  kl : PySem.W.kitAny K (.type "list") [.type "list", .type "tuple"] = some true
  kt : PySem.W.kitAny K (.type "tuple") [.type "list", .type "tuple"] = some true
/-- these rows part the legs of the frame -/
structure Parts (d : FrD) (Bl : List (Addr × List Str)) : Prop where
  l1 : 1 ≤ Bl.length
  l8 : Bl.length ≤ 8
  pm : (allN Bl).Perm (names d.ys)
def spWp (K : PySem.W.Frag) (ks : Kinds) (CF : Addr) : Sp := fun vs H Q _ => ∃ (f t : Addr) (d : FrD) (Bl : List (Addr × List Str)), vs = [.ref f, .ref t] ∧ FrIs ks CF H f d ∧ SqT K H t (refsB Bl) ∧ RowAt H Bl ∧ Parts d Bl ∧ ∀ H', Same H H' → Q .non H'
theorem repl_bl (n : Nat) (b : Bool) : (List.replicate (n + 1) b).map V.bl = (List.replicate n b).map V.bl ++ [.bl b] := by
  rw [List.replicate_succ', List.map_append]
  rfl
theorem repl_all (n : Nat) : (List.replicate n true).all id = true := List.all_eq_true.mpr fun b hb => List.eq_of_mem_replicate hb
/-- each of a comprehension's items is true -/
theorem lc_true {J : It} {n : Nat} {G : Hp → Prop} {Y : Nat → Hp → V → Hp → Prop} (wk : Walk J n G Y) {g : TG} {te : TE} {vs : List Nat} {σ : L2.St} {H1 : Hp} {D : Addr} {Qd : Hp → Prop} (hD : H1 D = none) (hn : n ≤ 1000) (hG : ∀ H', Same H1 H' → G H')
    (hs : ∀ i x H H' (Q : VK), i < n → Same H1 H → Y i H x H' → (∀ H'', Same H' H'' → Q (.bl true) H'') → Same H H' ∧ g x (wipe σ vs) H' fun σ2 H2 => wipe σ2 vs = wipe σ vs ∧ te σ2 H2 Q) (hd : ∀ H, Same H1 H → H D = some (.lst ((List.replicate n true).map V.bl)) → Qd H)
    (hgm : ∀ x H' (R R' : L2.St → Hp → Prop), (∀ σ2 H2, R σ2 H2 → R' σ2 H2) → g x (wipe σ vs) H' R → g x (wipe σ vs) H' R') :
    ∃ W : Nat → Nat → Hp → Prop, (∃ m, W 0 m (upd H1 D (.lst []))) ∧ ∀ i m H, W i m H →
      (J.stop i H ∧ Qd H) ∨ (J.go i H ∧ ∃ Nx : Hp → Prop, (∀ H', Nx H' → ∃ m', m' < m ∧ W (i + 1) m' H') ∧ ∀ x H', J.yld i H x H' → g x (wipe σ vs) H' fun σ2 H2 => wipe σ2 vs = wipe σ vs ∧ tYes σ2 H2 fun b H3 =>
        if b = true then te σ2 H3 fun y H4 => ∃ acc, H4 D = some (.lst acc) ∧ acc.length < sizeLine ∧ Nx (upd H4 D (.lst (acc ++ [y]))) else Nx H3) := by
  refine lc_it wk (fun i H' => Same H1 H' ∧ H' D = some (.lst ((List.replicate i true).map V.bl))) ⟨same_at hD, upd_same⟩ (fun i H' _ p => hG H' p.1) ?_ fun H p => hd H p.1 p.2
  rintro i x Ho Ha hi ⟨sa, da⟩ y
  refine hgm x Ha _ _ (fun σ2 H2 h => ⟨h.1, ?_⟩) (hs i x Ho Ha (fun y H4 => ∃ acc, H4 D = some (.lst acc) ∧ acc.length < sizeLine ∧ (Same H1 (upd H4 D (.lst (acc ++ [y]))) ∧ (upd H4 D (.lst (acc ++ [y]))) D = some (.lst ((List.replicate (i + 1) true).map V.bl)))) hi sa y fun H2 s2 => ?_).2
  · unfold tYes
    dsimp only
    rw [if_pos rfl]
    exact h.2
  · have sy := (hs i x Ho Ha (fun _ _ => True) hi sa y fun _ _ => trivial).1
    refine ⟨_, s2 _ _ (sy _ _ da), ?_, fun c o e => ?_, ?_⟩
    · rw [List.length_map, List.length_replicate]
      exact Nat.lt_of_lt_of_le (show i < 1000 by omega) (by decide)
    · rw [upd_ne (ne_of_none e hD)]
      exact s2 _ _ (sy _ _ (sa _ _ e))
    · rw [upd_same, repl_bl]
theorem gName_mn {v : Nat} {x : V} {σ : L2.St} {H' : Hp} (R R' : L2.St → Hp → Prop) (h : ∀ σ2 H2, R σ2 H2 → R' σ2 H2) (q : gName v x σ H' R) : gName v x σ H' R' := h _ _ q
/-- isinstance(row, (list, tuple)) -/
theorem isRow_rd {K : PySem.W.Frag} {σ : L2.St} {v : Nat} {H : Hp} {y : Addr × List Str} {Q : VK} (hv : σ[v]? = some (some (.ref y.1))) (kl : PySem.W.kitAny K (.type "list") [.type "list", .type "tuple"] = some true) (kt : PySem.W.kitAny K (.type "tuple") [.type "list", .type "tuple"] = some true)
    (h : H y.1 = some (.lst (strv y.2)) ∨ H y.1 = some (.tup (strv y.2))) (k : ∀ H', Same H H' → Q (.bl true) H') : tCB (rIsiT K) (tCons (tVar v) (tCons (tTup (tCons (tC (.ty "list")) (tCons (tC (.ty "tuple")) tNil))) tNil)) σ H Q := by
  refine ⟨_, hv, by show 2 ≤ sizeLine; decide, fun p hp => ?_⟩
  have sp := same_at (o := .tup [V.ty "list", .ty "tuple"]) hp
  have hty : ∃ tt, TyX K (upd H p (.tup [V.ty "list", .ty "tuple"])) (.ref y.1) (.type tt) ∧ PySem.W.kitAny K (.type tt) [.type "list", .type "tuple"] = some true := by
    rcases h with q | q
    · exact ⟨"list", .base (.lst (sp _ _ q)), kl⟩
    · exact ⟨"tuple", .base (.tup (sp _ _ q)), kt⟩
  obtain ⟨tt, ty, e⟩ := hty
  exact ⟨.ref y.1, p, [.ty "list", .ty "tuple"], .type tt, [.type "list", .type "tuple"], true, rfl, upd_same, .cons (.ty _) (.cons (.ty _) .nil), ty, e, k _ sp⟩
/-- [x for row in rows for x in row], the rows lists or tuples -/
theorem flat_it {K : PySem.W.Frag} {t D : Addr} {Bl : List (Addr × List Str)} {H1 : Hp} {σ : L2.St} {v u : Nat} {vs : List Nat} {Qd : Hp → Prop} (ht : SqT K H1 t (refsB Bl)) (hD : H1 D = none) (hB : RowAt H1 Bl) (hl : (allN Bl).length ≤ 1000)
    (hw1 : ∀ x, wipe ((wipe σ vs).set v (some x)) vs = wipe σ vs) (hv1 : ∀ x, ((wipe σ vs).set v (some x))[v]? = some (some x)) (hw2 : ∀ x y, wipe ((wipe ((wipe σ vs).set v (some x)) [u]).set u (some y)) [u] = wipe ((wipe σ vs).set v (some x)) [u]) (hv2 : ∀ x y, ((wipe ((wipe σ vs).set v (some x)) [u]).set u (some y))[u]? = some (some y))
    (k : ∀ H', Same H1 H' → H' D = some (.lst (strv (allN Bl))) → Qd H') :
    ∃ W : Nat → Nat → Hp → Prop, (∃ m, W 0 m (upd H1 D (.lst []))) ∧ ∀ i m H, W i m H →
      ((Itt K t).stop i H ∧ Qd H) ∨ ((Itt K t).go i H ∧ ∃ Nx : Hp → Prop, (∀ H', Nx H' → ∃ m', m' < m ∧ W (i + 1) m' H') ∧ ∀ x H', (Itt K t).yld i H x H' → gName v x (wipe σ vs) H' fun σ2 H2 => wipe σ2 vs = wipe σ vs ∧ tYes σ2 H2 fun b H3 =>
        if b = true then iSeq K (tVar v) σ2 H3 fun J1 H4 => InLoop J1 (gName u) tYes (tVar u) [u] D σ2 H4 Nx else Nx H3) := by
  have hBl := refsB_len Bl
  refine lc2_it (walk_tup (K := K) (a := t) (xs := refsB Bl)) (fun i H' => Same H1 H' ∧ H' D = some (.lst (strv (allN (Bl.take i))))) ⟨same_at hD, upd_same⟩ (fun i H' _ p => SqT.ext ht p.1) ?_ ?_
  · rintro i x Ho Ha hi ⟨sa, da⟩ ⟨rfl, hx⟩
    obtain ⟨y, hy, ey, rfl⟩ := refsB_at hx
    refine ⟨hw1 _, ?_⟩
    unfold tYes
    dsimp only
    rw [if_pos rfl]
    have hle : (allN (Bl.take i) ++ y.2).length ≤ 1000 := by
      rw [← allN_snoc ey]
      refine Nat.le_trans ?_ hl
      have e : allN Bl = allN (Bl.take (i + 1)) ++ allN (Bl.drop (i + 1)) := by
        unfold allN
        rw [← List.flatMap_append, List.take_append_drop]
      rw [e, List.length_append]
      omega
    rw [List.length_append] at hle
    have hyl : (strv y.2).length = y.2.length := List.length_map _
    have turn : ∀ (j : Nat) (x : V) (Hc Hd : Hp), j < (strv y.2).length → (Same H1 Hc ∧ Hc D = some (.lst (strv (allN (Bl.take i) ++ y.2.take j)))) → (Hd = Hc ∧ (strv y.2)[j]? = some x) →
        gName u x (wipe ((wipe σ vs).set v (some (.ref y.1))) [u]) Hd fun σ3 H5 => wipe σ3 [u] = wipe ((wipe σ vs).set v (some (.ref y.1))) [u] ∧ tYes σ3 H5 fun b H6 =>
          if b = true then tVar u σ3 H6 fun z H7 => ∃ acc, H7 D = some (.lst acc) ∧ acc.length < sizeLine ∧ (Same H1 (upd H7 D (.lst (acc ++ [z]))) ∧ upd H7 D (.lst (acc ++ [z])) D = some (.lst (strv (allN (Bl.take i) ++ y.2.take (j + 1))))) else (Same H1 H6 ∧ H6 D = some (.lst (strv (allN (Bl.take i) ++ y.2.take (j + 1))))) := by
      rintro j x Hc Hd hj ⟨sc, dc⟩ ⟨rfl, hxj⟩
      rw [hyl] at hj
      have exj : (strv y.2)[j]? = some (.str y.2[j]) := by show (y.2.map V.str)[j]? = _; rw [List.getElem?_map, List.getElem?_eq_getElem hj]; rfl
      rw [exj] at hxj
      obtain rfl := Option.some.inj hxj
      refine ⟨hw2 _ _, ?_⟩
      unfold tYes
      dsimp only
      rw [if_pos rfl]
      refine ⟨_, hv2 _ _, _, dc, ?_, fun c o e => ?_, ?_⟩
      · unfold strv
        rw [List.length_map, List.length_append, List.length_take]
        exact Nat.lt_of_le_of_lt (show _ ≤ 1000 by omega) (by decide)
      · rw [upd_ne (ne_of_none e hD)]
        exact sc _ _ e
      · rw [upd_same, List.take_add_one, List.getElem?_eq_getElem hj, Option.toList_some, ← List.append_assoc]
        show _ = some (HO.lst (List.map V.str _))
        rw [List.map_append (l₁ := allN (Bl.take i) ++ y.2.take j)]
        rfl
    have d0 : Ha D = some (.lst (strv (allN (Bl.take i) ++ y.2.take 0))) := by
      rw [List.take_zero, List.append_nil]
      exact da
    have fin : ∀ Hc, (Same H1 Hc ∧ Hc D = some (.lst (strv (allN (Bl.take i) ++ y.2.take (strv y.2).length)))) → (Same H1 Hc ∧ Hc D = some (.lst (strv (allN (Bl.take (i + 1)))))) := fun Hc h => ⟨h.1, by
      have := h.2
      rw [hyl, List.take_length, ← allN_snoc ey] at this
      exact this⟩
    rcases hB y hy with q | q
    · exact ⟨_, hv1 _, y.1, rfl, .inl ⟨⟨_, SqL.of (sa _ _ q)⟩, in_it (walk_list (K := K) (a := y.1) (xs := strv y.2)) (fun j H' => Same H1 H' ∧ H' D = some (.lst (strv (allN (Bl.take i) ++ y.2.take j)))) ⟨sa, d0⟩ (fun j H' _ p => SqL.of (p.1 _ _ q)) turn fin⟩⟩
    · exact ⟨_, hv1 _, y.1, rfl, .inr ⟨⟨_, SqT.of (sa _ _ q)⟩, in_it (walk_tup (K := K) (a := y.1) (xs := strv y.2)) (fun j H' => Same H1 H' ∧ H' D = some (.lst (strv (allN (Bl.take i) ++ y.2.take j)))) ⟨sa, d0⟩ (fun j H' _ p => SqT.of (p.1 _ _ q)) turn fin⟩⟩
  · rintro H2 ⟨s2, d2⟩
    rw [hBl, List.take_length] at d2
    exact k _ s2 d2
section
variable {P : Program} {w : World} {K : PySem.W.Frag} {mg : Str → Option Value} {base : Heap}
theorem ok_wp {f CF CC : Addr} {fd : FuncData} {ks : Kinds} (F : Fun K "wrong_parts" "wrong_parts" sWp f fd) (T : WpT P w K mg base ks CF CC) : FnOk P w K mg base CX0 3 f fd ["frame", "parts"] (spWp K ks CF) := by
  obtain ⟨mc, u, cr, cv⟩ := T.most
  refine F.ok scWp (fun vs H Q E h => ?_) (fun cdv A outer s H vs Q E hr h => ?_)
  · obtain ⟨f, t, d, Bl, rfl, _⟩ := h
    rfl
  · obtain ⟨f, t, d, Bl, rfl, hF, ht, hB, hp, k⟩ := h
    have hr1 := hr.mono (show 1 ≤ 2 by decide)
    refine ⟨_, pss_cons (ps_if (PW.pt (pw_or (pt_not (pt_chain op_le op_le pe_int (pe_callB call_len_seq (by rfl) T.len PySem.boot_len (pa_cons (pv 1) pa_nil)) (ClX.pe_cval (pe_glob rfl T.mC (v := .ref CC) rfl))))
        (pw_or1 (pt_not (pt_val (pe_callB (cr_all rfl) (by rfl) T.all (by decide +kernel) (pa_cons (pe_lc (te := teP1 K) (tt := tYes) (own := [("part", 3)]) (g := gName 3) rfl scWp.nd (pi_tup (pv 1)) (blkOk_by (N := nWp) (sc := defScope sWp) (by decide +kernel))
          (fun _ _ _ _ _ => pg_name (i := 3) scWp.nd rfl (Or.inl rfl)) (fun _ _ _ _ _ => pts_nil) (fun _ _ _ _ _ => pe_callB call_isiT (by rfl) T.isi (by decide +kernel) (pa_cons (pv 3) (pa_cons (pe_tup (pa_cons (pe_bltn (by rfl) T.list (by decide +kernel) (v := .ty "list") rfl) (pa_cons (pe_bltn (by rfl) T.tuple (by decide +kernel) (v := .ty "tuple") rfl) pa_nil))) pa_nil)))) pa_nil))))))) (pss_one (ps_ret pe_str)) pss_nil)
      (pss_cons (ps_setLc2 (i := 2) (wi1 := iSeq K (tVar 3)) (te := tVar 4) (tt := tYes) (tt1 := tYes) (own := [("part", 3), ("name", 4)]) (vs1 := [4]) (g := gName 3) (g1 := gName 4) rfl scWp.nd rfl rfl (sw_true rfl rfl rfl (by decide +kernel)) (pi_tup (pv 1)) (blkOk_by (N := nWp) (sc := defScope sWp) (by decide +kernel)) (by decide)
          (fun _ _ _ _ _ => pg_name (i := 3) scWp.nd rfl (Or.inl rfl)) (fun _ _ _ _ _ => pts_nil) (fun _ _ _ _ _ => pi_seq (pv 3)) (fun _ _ _ _ _ => pg_name (i := 4) scWp.nd rfl (Or.inl rfl)) (fun _ _ _ _ _ => pts_nil) (fun _ _ _ _ _ => pv 4))
      (pss_cons (ps_if (pt_not (pt_val (pe_callB (cr_all rfl) (by rfl) T.all (by decide +kernel) (pa_cons (pe_lc (te := teP3 K ks CF) (tt := tYes) (own := [("name", 4)]) (g := gName 4) rfl scWp.nd (pi_list (pv 2)) (blkOk_by (N := nWp) (sc := defScope sWp) (by decide +kernel))
          (fun _ _ _ _ _ => pg_name (i := 4) scWp.nd rfl (Or.inl rfl)) (fun _ _ _ _ _ => pts_nil) (fun _ _ _ _ _ => pe_cmpR (op_inN T.in_ hr1) (pv 4) (pv 0) (by rfl))) pa_nil)))) (pss_one (ps_ret pe_str)) pss_nil)
      (pss_cons (ps_if (pt_cmpR op_lt (pe_callB (SetS.call_lenX) (by rfl) T.len PySem.boot_len (pa_cons (pe_callTy (T := "set") (SetS.call_setL rfl) (by rfl) T.set (by decide +kernel) (pa_cons (pv 2) pa_nil)) pa_nil)) (pe_callB call_len_seq (by rfl) T.len PySem.boot_len (pa_cons (pv 2) pa_nil)) (nomark _)) (pss_one (ps_ret pe_str)) pss_nil)
      (pss_cons (ps_if (pt_cmpR op_lt (pe_callB call_len_seq (by rfl) T.len PySem.boot_len (pa_cons (pv 2) pa_nil)) (pe_callB (call_lenN T.len_ hr) (by rfl) T.len PySem.boot_len (pa_cons (pv 0) pa_nil)) (nomark _)) (pss_one (ps_ret pe_str)) pss_nil)
      (pss_one (ps_ret pe_non)))))), ?_⟩
    have hBl := refsB_len Bl
    have h1 := hp.l1
    have h8 := hp.l8
    have hn40 : (names d.ys).length ≤ 40 := by unfold names; rw [List.length_map]; exact hF.le
    have hlen : (allN Bl).length = d.ys.length := by rw [hp.pm.length_eq]; unfold names; rw [List.length_map]
    have hnd : (allN Bl).Nodup := hp.pm.nodup_iff.mpr hF.nd
    have hl : (allN Bl).length ≤ 40 := by rw [hlen]; exact hF.le
    -- 1 <= len(parts) <= 8
    refine ⟨_, rfl, t, _, rfl, .inr ht, _, _, rfl, rfl, true, ?_, ?_⟩
    · show V.bl (decide ((1 : Int) ≤ ((refsB Bl).length : Int))) = _
      rw [decide_eq_true (by rw [hBl]; omega)]
    rw [if_pos rfl]
    refine ⟨CC, mc, _, u, rfl, cr, cv, _, _, rfl, rfl, true, ?_, iteF ?_⟩
    · show V.bl (decide (((refsB Bl).length : Int) ≤ 8)) = _
      rw [decide_eq_true (by rw [hBl]; omega)]
    refine ⟨_, rfl, t, rfl, ⟨_, ht⟩, fun D hD => ?_⟩
    refine lc_true (walk_tup (K := K) (a := t) (xs := refsB Bl)) hD (by rw [hBl]; omega) (fun H' s => SqT.ext ht s) ?_ ?_ (fun _ _ R R' h q => gName_mn R R' h q)
    · rintro i x Ho Ha Q' hi sa ⟨rfl, hx⟩ kq
      obtain ⟨y, hy, ey, rfl⟩ := refsB_at hx
      exact ⟨Same.refl _, rfl, isRow_rd (v := 3) (y := y) rfl T.kl T.kt (hB.same sa y hy) kq⟩
    intro H1 s1 d1
    refine ⟨D, _, rfl, SqL.of d1, ?_⟩
    rw [repl_all]
    refine ⟨_, rfl, iteF ?_⟩
    -- all names
    have ht1 := SqT.ext ht s1
    have hB1 := hB.same s1
    refine ⟨_, rfl, t, rfl, ⟨_, ht1⟩, fun D2 hD2 => flat_it ht1 hD2 hB1 (by omega) (fun x => rfl) (fun x => rfl) (fun x y => rfl) (fun x y => rfl) fun H2 s2 d2 => ?_⟩
    have hF2 := hF.same (s1.trans s2)
    have nl : (strv (allN Bl)).length = (allN Bl).length := List.length_map _
    obtain ⟨dx, fs, ea⟩ := hF2.ins
    refine ⟨_, rfl, D2, rfl, ⟨_, SqL.of d2⟩, fun D3 hD3 => ?_⟩
    refine lc_true (walk_list (K := K) (a := D2) (xs := strv (allN Bl))) hD3 (by omega) (fun H' s => SqL.ext (SqL.of d2) s) ?_ ?_ (fun _ _ R R' h q => gName_mn R R' h q)
    · rintro i x Ho Ha Q' hi sa ⟨rfl, hx⟩ kq
      rw [nl] at hi
      have ex : (strv (allN Bl))[i]? = some (.str (allN Bl)[i]) := by show ((allN Bl).map V.str)[i]? = _; rw [List.getElem?_map, List.getElem?_eq_getElem hi]; rfl
      rw [ex] at hx
      obtain rfl := Option.some.inj hx
      exact ⟨Same.refl _, rfl, _, rfl, _, rfl, f, dx, fs, rfl, sa _ _ ea, f, d, _, rfl, hF2.same sa, .inl ⟨_, rfl, hp.pm.mem_iff.mp (List.getElem_mem hi), true, rfl, kq _ (Same.refl _)⟩⟩
    intro H3 s3 d3
    refine ⟨D3, _, rfl, SqL.of d3, ?_⟩
    rw [repl_all]
    refine ⟨_, rfl, iteF ?_⟩
    -- no name twice
    have d2b := s3 _ _ d2
    refine ⟨_, rfl, D2, allN Bl, rfl, SqL.of d2b, Nat.lt_of_le_of_lt hl (by decide), fun p hp' => ?_⟩
    have sp := same_at (o := SetS.SetX w p (SetS.setL (allN Bl))) hp'
    refine ⟨p, SetS.setL (allN Bl), rfl, upd_same, _, rfl, D2, strv (allN Bl), rfl, .inl (SqL.of (sp _ _ d2b)), ?_⟩
    refine ⟨_, _, rfl, rfl, ?_⟩
    have e4 : decide (((SetS.setL (allN Bl)).length : Int) < ((strv (allN Bl)).length : Int)) = false := by
      rw [SetS.setL_same hnd, nl]
      exact decide_eq_false (Int.lt_irrefl _)
    refine ⟨false, by show V.bl (decide (((SetS.setL (allN Bl)).length : Int) < ((strv (allN Bl)).length : Int))) = _; rw [e4], iteF ?_⟩
    -- all legs
    have s24 := s3.trans sp
    have hF4 := hF2.same s24
    refine ⟨_, rfl, D2, strv (allN Bl), rfl, .inl (SqL.of (sp _ _ d2b)), _, rfl, f, dx, fs, rfl, s24 _ _ ea, f, d.ys, _, _, _, rfl, hF4.at_, d.ys.length, rfl, ?_, ?_⟩
    · exact Nat.lt_of_le_of_lt hF.le (by decide)
    refine ⟨_, _, rfl, rfl, false, ?_, iteF (k _ ((s1.trans s2).trans s24))⟩
    show V.bl (decide (((strv (allN Bl)).length : Int) < (d.ys.length : Int))) = _
    rw [nl, hlen, decide_eq_false (Int.lt_irrefl _)]
end
end Sj
/-! C(e, .., *xs), C a class of the module or what a name holds -/
namespace MakeS
open PySem PySem.Spec PyProof.Rows L2 StX
section
variable {X : Cx} {CX : CXT} {k : Nat} {f C : Addr} {sp : Sp} {E : XK} {x : PySem.Str} {e : Expr} {es : List Expr} {tf : TE} {t : TA} {p pos : Pos}
def tMakeSV (C : Addr) (sp : Sp) (E : XK) (tf : TE) (t : TA) : TE := fun σ H Q => tf σ H fun c H0 => c = .ref C ∧ tMakeR C sp E t σ H0 Q
theorem pe_makeSV (M : Mk X.K C f) (F : FnR X.prog X.w X.K X.mg X.base CX k f sp) (hr : Room (k + 1) X.A) (hx : Passes CX X E) (hf : PE X (.Name x p) tf) (ha : PA X (e :: es) t)
    (he : starEach (e :: es) X.env = (false, eval e X.env) :: starEach es X.env := by rfl) (hst : (backTo pos (starEach es X.env)).any (·.1) = true := by rfl) : PE X (.Call (.Name x p) (e :: es) [] pos) (tMakeSV C sp E tf t) := by
  refine ⟨fun pins s σ H Q I h => ?_⟩
  refine wpAny_Call_Name_kw (thn (hf.run pins s σ H _ I h) fun u s1 ⟨c, H1, I1, rc, ec, q1⟩ => ?_)
  subst ec
  obtain rfl : u = Value.ref C := rc
  refine PySem.W.callWith_S2 (h₀ := X.base) I.ok.mod.kin M.kp (thn (ha.run pos pins s1 σ H1 _ I1 q1) fun us s2 ⟨vs, H2, I2, r, q⟩ => ⟨I2.kIn, ?_⟩) he hst
  exact run_makeR M F hr hx I2 r q
end
end MakeS
namespace Sj
open PySem L2 Sup StK Own Shw Exg Grd KepE
open NdefX (NF NScope ncx envF startF nscope_by)
open C8 (pss_cut tCut)
/-! k65: Chain.__init__, where all is well; Chain.of -/
abbrev sChI : Stmt := inClass (top 31) 1
abbrev sChO : Stmt := inClass (top 31) 2
abbrev nCh : List Str := ["self", "frame", "parts", "reason", "part"]
theorem scChI : FnScope nCh ["self", "frame", "parts"] (defScope sChI) := ⟨rfl, rfl, rfl, by decide +kernel, rfl, by decide +kernel, by decide +kernel⟩
theorem scChO : FnScope ["cls", "frame", "parts"] ["cls", "frame", "parts"] (defScope sChO) := ⟨rfl, rfl, rfl, by decide +kernel, rfl, by decide +kernel, by decide +kernel⟩
structure ChT (P : Program) (w : World) (K : PySem.W.Frag) (mg : Str → Option Value) (base : Heap) (ks : Kinds) (CF CC : Addr) : Prop where
  wrong : ∃ f fd, mg "wrong_parts" = some (.ref f) ∧ PySem.W.keepIn K (.ref f) = true ∧ Binds K fd ["frame", "parts"] [] ∧ FnOk P w K mg base CX0 3 f fd ["frame", "parts"] (spWp K ks CF)
  tuple : mg "tuple" = none
  list : mg "list" = none
  isi : mg "isinstance" = none
  cl : Cls K CC
  nF : NoAttr K CC "frame"
  nP : NoAttr K CC "parts"
  kl : PySem.W.kitAny K (.type "list") [.type "list", .type "tuple"] = some true
  kt : PySem.W.kitAny K (.type "tuple") [.type "list", .type "tuple"] = some true
/-- a chain's attributes -/
def chF (f B : Addr) : List (Str × V) := putF "parts" (.ref B) (putF "frame" (.ref f) [])
theorem chF_frame (f B : Addr) : (chF f B).lookup ("frame" : Str) = some (V.ref f) := by
  unfold chF
  rw [lookup_putF, if_neg (by decide +kernel), lookup_putF, if_pos rfl]
theorem chF_parts (f B : Addr) : (chF f B).lookup ("parts" : Str) = some (V.ref B) := by
  unfold chF
  rw [lookup_putF, if_pos rfl]
/-- a chain stands at o -/
def ChAt (H : Hp) (o CC f : Addr) (L : List (Addr × List Str)) : Prop := ∃ dx B, H o = some (.ins CC dx (chF f B)) ∧ H B = some (.tup (refsB L)) ∧ ∀ x ∈ L, H x.1 = some (.tup (strv x.2))
theorem ChAt.same {H H' : Hp} {o CC f : Addr} {L : List (Addr × List Str)} (h : ChAt H o CC f L) (s : Same H H') : ChAt H' o CC f L := by
  obtain ⟨dx, B, h1, h2, h3⟩ := h
  exact ⟨dx, B, s _ _ h1, s _ _ h2, fun x hx => s _ _ (h3 x hx)⟩
def tRow (K : PySem.W.Frag) (v : Nat) : TE := tCB (fun xs H Q => ∃ p ys, xs = [V.ref p] ∧ ((SqL K H p ys ∧ ∀ l, H l = none → Q (.ref l) (upd H l (.tup ys))) ∨ (SqT K H p ys ∧ Q (.ref p) H))) (tCons (tVar v) tNil)
/-- [tuple(row) for row in rows] -/
theorem rows_it {K : PySem.W.Frag} {D : Addr} {J : It} {Bl : List (Addr × List Str)} {H1 : Hp} {σ : L2.St} {v : Nat} {vs : List Nat} {Qd : Hp → Prop} (G : Hp → Prop) (wk : Walk J (refsB Bl).length G fun i H x H' => H' = H ∧ (refsB Bl)[i]? = some x) (hG : ∀ H', Same H1 H' → G H') (hD : H1 D = none) (hB : RowAt H1 Bl) (hl : Bl.length ≤ 1000)
    (hw1 : ∀ x, wipe ((wipe σ vs).set v (some x)) vs = wipe σ vs) (hv1 : ∀ x, ((wipe σ vs).set v (some x))[v]? = some (some x))
    (k : ∀ H' L, Same H1 H' → L.map (·.2) = Bl.map (·.2) → (∀ x ∈ L, H' x.1 = some (.tup (strv x.2))) → H' D = some (.lst (refsB L)) → Qd H') :
    ∃ W : Nat → Nat → Hp → Prop, (∃ m, W 0 m (upd H1 D (.lst []))) ∧ ∀ i m H, W i m H →
      (J.stop i H ∧ Qd H) ∨ (J.go i H ∧ ∃ Nx : Hp → Prop, (∀ H', Nx H' → ∃ m', m' < m ∧ W (i + 1) m' H') ∧ ∀ x H', J.yld i H x H' → gName v x (wipe σ vs) H' fun σ2 H2 => wipe σ2 vs = wipe σ vs ∧ tYes σ2 H2 fun b H3 =>
        if b = true then tRow K v σ2 H3 fun y H4 => ∃ acc, H4 D = some (.lst acc) ∧ acc.length < sizeLine ∧ Nx (upd H4 D (.lst (acc ++ [y]))) else Nx H3) := by
  have hBl := refsB_len Bl
  refine lc_it wk (fun i H' => Same H1 H' ∧ ∃ L : List (Addr × List Str), L.map (·.2) = (Bl.take i).map (·.2) ∧ (∀ x ∈ L, H' x.1 = some (.tup (strv x.2))) ∧ H' D = some (.lst (refsB L))) ⟨same_at hD, [], rfl, (fun x hx => (by cases hx)), upd_same⟩ (fun i H' _ p => hG _ p.1) ?_ ?_
  · rintro i x Ho Ha hi ⟨sa, L, hL, hLa, da⟩ ⟨rfl, hx⟩
    obtain ⟨y, hy, ey, rfl⟩ := refsB_at hx
    refine ⟨hw1 _, ?_⟩
    unfold tYes
    dsimp only
    rw [if_pos rfl]
    have hLl : L.length ≤ 1000 := by
      have := congrArg List.length hL
      rw [List.length_map, List.length_map, List.length_take] at this
      omega
    have go : ∀ (a : Addr) (H4 : Hp), Same Ha H4 → H4 a = some (.tup (strv y.2)) → ∃ acc, H4 D = some (.lst acc) ∧ acc.length < sizeLine ∧ (Same H1 (upd H4 D (.lst (acc ++ [.ref a]))) ∧ ∃ L : List (Addr × List Str), L.map (·.2) = (Bl.take (i + 1)).map (·.2) ∧ (∀ x ∈ L, upd H4 D (.lst (acc ++ [.ref a])) x.1 = some (.tup (strv x.2))) ∧ upd H4 D (.lst (acc ++ [.ref a])) D = some (.lst (refsB L))) := by
      intro a H4 s4 ha
      have d4 := s4 _ _ da
      have off : ∀ {c : Addr} {zs : List V}, H4 c = some (.tup zs) → ∀ o, upd H4 D o c = some (.tup zs) := fun {c zs} e o => by
        rw [upd_ne fun q => by rw [q, d4] at e; cases e]
        exact e
      refine ⟨_, d4, ?_, fun c o e => ?_, L ++ [(a, y.2)], ?_, fun x hx => ?_, ?_⟩
      · rw [refsB_len]
        exact Nat.lt_of_le_of_lt hLl (by decide)
      · rw [upd_ne (ne_of_none e hD)]
        exact s4 _ _ (sa _ _ e)
      · rw [List.map_append, hL, List.take_add_one, ey, Option.toList_some, List.map_append]
        rfl
      · rcases List.mem_append.mp hx with hx | hx
        · exact off (s4 _ _ (hLa x hx)) _
        · obtain rfl := List.mem_singleton.mp hx
          exact off ha _
      · rw [upd_same]
        unfold refsB
        rw [List.map_append]
        rfl
    refine ⟨_, hv1 _, y.1, strv y.2, rfl, ?_⟩
    rcases hB y hy with q | q
    · refine .inl ⟨SqL.of (sa _ _ q), fun l hl' => ?_⟩
      exact go l _ (same_at hl') upd_same
    · exact .inr ⟨SqT.of (sa _ _ q), go y.1 _ (Same.refl _) (sa _ _ q)⟩
  · rintro H2 ⟨s2, L, hL, hLa, d2⟩
    rw [hBl, List.take_length] at hL
    exact k H2 L s2 hL hLa d2
def spChI (K : PySem.W.Frag) (ks : Kinds) (CF CC : Addr) : Sp := fun vs H Q E => ∃ (o dx f t : Addr) (d : FrD) (Bl : List (Addr × List Str)), vs = [.ref o, .ref f, .ref t] ∧ H o = some (.ins CC dx []) ∧ FrIs ks CF H f d ∧ H t = some (.tup (refsB Bl)) ∧ RowAt H Bl ∧ Parts d Bl ∧
  ∀ H' L, L.map (·.2) = Bl.map (·.2) → ChAt H' o CC f L → But H H' o → Q .non H'
theorem FrIs.butC {ks : Kinds} {CF CB o dx : Addr} {H H' : Hp} {a : Addr} {d : FrD} (h : FrIs ks CF H a d) (ho : H o = some (.ins CB dx [])) (s : But H H' o) : FrIs ks CF H' a d := by
  refine ⟨?_, fun r hr => ?_, h.nd, h.le, h.so⟩
  · obtain ⟨dy, D, h1, h2, h3⟩ := h.at_
    refine ⟨dy, D, s _ _ (fun e => ?_) h1, s _ _ (fun e => ?_) h2, h3⟩
    · rw [e, ho] at h1
      cases h1
    · rw [e, ho] at h2
      cases h2
  · obtain ⟨hc, dy, hl⟩ := h.ok r hr
    refine ⟨hc, dy, s _ _ (fun e => ?_) hl⟩
    rw [e, ho] at hl
    cases hl
section
variable {P : Program} {w : World} {K : PySem.W.Frag} {mg : Str → Option Value} {base : Heap}
theorem body_chI {CF CC f : Addr} {ks : Kinds} (T : ChT P w K mg base ks CF CC) (cdv : Value) (A : Around) (outer : List Env) (s : Shared) (H : Hp) (vs : List V) (Q : VK) (E : XK)
    (hr : Room 3 (A.deeper (PyProof.Rows.envOfC "Chain.__init__" (defScope sChI) s.heap.objs.size f cdv))) (h : spChI K ks CF CC vs H Q E) :
    ∃ t, PSs (cxOf (L2.CX P w) P w K mg base nCh "Chain.__init__" (defScope sChI) f cdv A outer s H E) (defBody sChI) t ∧ t { nx := fun _ H' => Q .non H', rt := Q } (start nCh vs) H := by
  obtain ⟨fW, fdW, mW, kW, bW, GW⟩ := T.wrong
  have hr1 := hr.mono (show 2 ≤ 3 by decide)
  refine ⟨_, pss_cons (ps_set (i := 3) scChI.nd rfl (Or.inl rfl) (pe_call GW hr rfl mW kW bW .nil pass0 (pa_cons (pv 1) (pa_cons (pv 2) pa_nil))))
      (pss_cons (ps_if (pt_cmpR op_notN (pv 3) pe_non (nomark _)) pss_never pss_nil)
      (pss_cons (ps_fld (pv 0) (pv 1) rfl)
      (pss_one (ps_fld (pv 0) (pe_callTy (T := "tuple") call_tuple_of (by rfl) T.tuple (by decide +kernel) (pa_cons
          (pe_lc (te := tRow K 4) (tt := tYes) (own := [("part", 4)]) (g := gName 4) rfl scChI.nd (pi_tup (pv 2)) (blkOk_by (N := nCh) (sc := defScope sChI) (by decide +kernel)) (fun _ _ _ _ _ => pg_name (i := 4) scChI.nd rfl (Or.inl rfl)) (fun _ _ _ _ _ => pts_nil)
            (fun _ _ _ _ _ => pe_callTy (T := "tuple") call_tuple_of (by rfl) T.tuple (by decide +kernel) (pa_cons (pv 4) pa_nil))) pa_nil)) rfl)))), ?_⟩
  obtain ⟨o, dx, f, t, d, Bl, rfl, ho, hF, ht, hB, hp, k⟩ := h
  refine ⟨_, rfl, _, rfl, f, t, d, Bl, rfl, hF, SqT.of ht, hB, hp, fun H1 s1 => ?_⟩
  refine ⟨_, rfl, rfl, _, rfl, iteF ?_⟩
  refine ⟨_, rfl, _, rfl, o, CC, dx, [], rfl, s1 _ _ ho, T.cl, T.nF, by show 0 < 1000; decide, ?_⟩
  obtain ⟨H2, e2⟩ : ∃ H2, H2 = upd H1 o (.ins CC dx (putF "frame" (.ref f) [])) := ⟨_, rfl⟩
  rw [← e2]
  have b2 : But H H2 o := fun b u hb e => by rw [e2, upd_ne hb]; exact s1 _ _ e
  have o2 : H2 o = some (.ins CC dx (putF "frame" (.ref f) [])) := by rw [e2, upd_same]
  have nto : t ≠ o := fun e => by rw [e, ho] at ht; cases ht
  have ht2 : H2 t = some (.tup (refsB Bl)) := b2 _ _ nto ht
  have hB2 : RowAt H2 Bl := fun x hx => (hB x hx).imp (fun q => b2 _ _ (fun e => by rw [e, ho] at q; cases q) q) (fun q => b2 _ _ (fun e => by rw [e, ho] at q; cases q) q)
  have h8 := hp.l8
  refine ⟨_, rfl, t, rfl, ⟨_, SqT.of ht2⟩, fun D1 hD1 => ?_⟩
  refine rows_it (fun H' => SqT K H' t (refsB Bl)) (walk_tup (K := K) (a := t) (xs := refsB Bl)) (fun H' s => SqT.of (s _ _ ht2)) hD1 hB2 (by omega) (fun x => rfl) (fun x => rfl) fun H3 L s3 hL hLa d3 => ?_
  refine ⟨D1, _, rfl, .inl ⟨SqL.of d3, fun B hBn => ?_⟩⟩
  have s4 := same_at (o := .tup (refsB L)) hBn
  have o4 := s4 _ _ (s3 _ _ o2)
  have nBo : B ≠ o := fun e => by rw [e, upd_same] at o4; cases o4
  refine ⟨_, rfl, o, CC, dx, _, rfl, o4, T.cl, T.nP, by show 1 < 1000; decide, ?_⟩
  refine k _ L hL ⟨dx, B, upd_same, ?_, fun x hx => ?_⟩ fun b u hb e => ?_
  · rw [upd_ne nBo]
    exact upd_same
  · have e := s4 _ _ (hLa x hx)
    rw [upd_ne fun q => by rw [q, o4] at e; cases e]
    exact e
  · rw [upd_ne hb]
    exact s4 _ _ (s3 _ _ (b2 _ _ hb e))
def spChS (K : PySem.W.Frag) (ks : Kinds) (CF CC : Addr) : Sp := fun vs H Q E => ∃ ws rest, vs = ws ++ rest ∧ ws.length = (["self", "frame"] : List Str).length ∧ rest.length ≤ sizeLine ∧ ∀ p, H p = none → spChI K ks CF CC (ws ++ [.ref p]) (upd H p (.tup rest)) Q E
theorem fnr_chI {CF CC f : Addr} {fd : FuncData} {ks : Kinds} (F : FunD K "__init__" "Chain.__init__" (defArgs sChI) (defBody sChI) (defScope sChI) [] [] f fd) (T : ChT P w K mg base ks CF CC) :
    FnR P w K mg base (L2.CX P w) 4 f (spChS K ks CF CC) := by
  obtain ⟨oc, od, dV, kV, doc, pm, an, cdv, ct, osl, rfl, lk, hcd, hD, hK⟩ := F.ex
  rcases hD with ⟨_, rfl⟩ | ⟨e, _⟩
  case inr => exact absurd rfl e
  refine StX.fn_star (pv := "parts") (ps := ["self", "frame"]) lk hcd scChI StX.cxUp (fun us rest h => ?_) fun A outer s H vs Q E hr h => body_chI T cdv A outer s H vs Q E hr h
  exact StX.bind_star2 (B := fun l => bindArgs _ ⟨l, []⟩) (fun a b => rfl) (fun a b r rs => rfl) us rest h
theorem mk_ch {CF CC f x dx : Addr} {ks : Kinds} {d : FrD} {Bl : List (Addr × List Str)} {H : Hp} {Q : VK} {E : XK} (hF : FrIs ks CF H f d) (hB : RowAt H Bl) (p : Parts d Bl) (hx : H x = none) (hdx : H dx = none) (hne : dx ≠ x)
    (k : ∀ H' L, L.map (·.2) = Bl.map (·.2) → ChAt H' x CC f L → Same H H' → Q .non H') : spChS K ks CF CC (V.ref x :: .ref f :: refsB Bl) (upd (upd H dx (.own x)) x (.ins CC dx [])) Q E := by
  have s1 : Same H (upd (upd H dx (.own x)) x (.ins CC dx [])) := fun b o e => by
    rw [upd_ne (ne_of_none e hx), upd_ne (ne_of_none e hdx)]
    exact e
  refine ⟨[.ref x, .ref f], refsB Bl, rfl, rfl, ?_, fun t ht => ?_⟩
  · rw [refsB_len]
    exact Nat.le_trans p.l8 (by decide)
  have hxt : x ≠ t := ne_of_none upd_same ht
  have s2 := s1.trans (same_at (o := .tup (refsB Bl)) ht)
  refine ⟨x, dx, f, t, d, Bl, rfl, by rw [upd_ne hxt, upd_same], hF.same s2, upd_same, hB.same s2, p, fun H' L hL hC hb => k H' L hL hC fun b o e => ?_⟩
  exact hb b o (ne_of_none e hx) (s2 _ _ e)
/-- Chain.of of rows that part the legs -/
def spChO (K : PySem.W.Frag) (ks : Kinds) (CF CC : Addr) : Sp := fun vs H Q E => ∃ (f l : Addr) (d : FrD) (Bl : List (Addr × List Str)), vs = [.ref CC, .ref f, .ref l] ∧ (H l = some (.lst (refsB Bl)) ∨ H l = some (.tup (refsB Bl))) ∧ FrIs ks CF H f d ∧ RowAt H Bl ∧ Parts d Bl ∧
  ∀ x H' L, H x = none → L.map (·.2) = Bl.map (·.2) → ChAt H' x CC f L → Same H H' → Q (.ref x) H'
theorem ok_cho {CF CC fC f : Addr} {fd : FuncData} {ks : Kinds} (F : FunD K "of" "Chain.of" (defArgs sChO) (defBody sChO) (defScope sChO) [] [] f fd) (T : ChT P w K mg base ks CF CC) (M : Mk K CC fC)
    (GF : FnR P w K mg base (L2.CX P w) 4 fC (spChS K ks CF CC)) : FnOk P w K mg base (L2.CX P w) 6 f fd ["cls", "frame", "parts"] (spChO K ks CF CC) := by
  refine F.ok scChO (fun vs H Q E h => ?_) (fun cdv A outer s H vs Q E hr h => ?_)
  · obtain ⟨fr, l, d, Bl, rfl, _⟩ := h
    rfl
  · obtain ⟨fr, l, d, Bl, rfl, hl, hF, hB, hp, k⟩ := h
    refine ⟨_, pss_cons (ps_if (pt_not (pt_val (pe_callB call_isiT (by rfl) T.isi (by decide +kernel) (pa_cons (pv 2) (pa_cons (pe_tup (pa_cons (pe_bltn (by rfl) T.list (by decide +kernel) (v := .ty "list") rfl) (pa_cons (pe_bltn (by rfl) T.tuple (by decide +kernel) (v := .ty "tuple") rfl) pa_nil))) pa_nil)))))
        pss_never pss_nil)
      (pss_one (ps_ret (MakeS.pe_makeSV M GF hr (passes_call (takes_of rfl rfl rfl rfl) fun _ _ _ _ h => h) (pv 0) (pa_cons (pv 1) (StX.pa_star (pv 2) pa_nil))))), ?_⟩
    refine ⟨_, rfl, by show 2 ≤ sizeLine; decide, fun p hp' => ?_⟩
    have sp := same_at (o := .tup [V.ty "list", .ty "tuple"]) hp'
    have hty : ∃ tt, TyX K (upd H p (.tup [V.ty "list", .ty "tuple"])) (.ref l) (.type tt) ∧ PySem.W.kitAny K (.type tt) [.type "list", .type "tuple"] = some true := by
      rcases hl with q | q
      · exact ⟨"list", .base (.lst (sp _ _ q)), T.kl⟩
      · exact ⟨"tuple", .base (.tup (sp _ _ q)), T.kt⟩
    obtain ⟨tt, ty, e⟩ := hty
    refine ⟨.ref l, p, [.ty "list", .ty "tuple"], .type tt, [.type "list", .type "tuple"], true, rfl, upd_same, .cons (.ty _) (.cons (.ty _) .nil), ty, e, _, rfl, iteF ?_⟩
    refine ⟨_, rfl, rfl, _, rfl, _, rfl, l, refsB Bl, rfl, ?_, ?_⟩
    · rcases hl with h | h
      · exact .inr (SqL.of (sp _ _ h))
      · exact .inl (SqT.of (sp _ _ h))
    · intro x dx hx hdx hne
      rw [List.append_nil]
      exact mk_ch (hF.same sp) (hB.same sp) hp hx hdx hne fun H' L hL hC hs => ⟨rfl, k x H' L (sp.free hx) hL hC (sp.trans hs)⟩
end
end Sj
/-! == of tuples of texts, and of tuples of such tuples -/
namespace Own
open PySem PySem.Spec PyProof.Rows L2 Sup
end Own
/-! != of tuples of texts, and of tuples of such; a list of texts in a list of such; a tuple of texts not in a list of such -/
namespace Own
open PySem PySem.Spec PyProof.Rows L2 Sup
end Own
/-! enumerate of a tuple. -/
namespace Sj
open PySem L2 Sup StK Own Shw Exg Grd KepE
open NdefX (NF NScope ncx envF startF nscope_by)
open C8 (pss_cut tCut)
/-! k65: what a chain tells -/
/-- a chain of the frame at f -/
structure ChIs (ks : Kinds) (CF CC : Addr) (H : Hp) (o f : Addr) (d : FrD) (L : List (Addr × List Str)) : Prop where
  at_ : ChAt H o CC f L
  fr : FrIs ks CF H f d
  p : Parts d L
theorem ChIs.same {ks : Kinds} {CF CC : Addr} {H H' : Hp} {o f : Addr} {d : FrD} {L : List (Addr × List Str)} (h : ChIs ks CF CC H o f d L) (s : Same H H') : ChIs ks CF CC H' o f d L := ⟨h.at_.same s, h.fr.same s, h.p⟩
theorem Parts.le40 {ks : Kinds} {CF : Addr} {H : Hp} {f : Addr} {d : FrD} {L : List (Addr × List Str)} (p : Parts d L) (h : FrIs ks CF H f d) : (allN L).length ≤ 40 := by
  rw [p.pm.length_eq]
  unfold names
  rw [List.length_map]
  exact h.le
theorem Parts.nd {ks : Kinds} {CF : Addr} {H : Hp} {f : Addr} {d : FrD} {L : List (Addr × List Str)} (p : Parts d L) (h : FrIs ks CF H f d) : (allN L).Nodup := p.pm.nodup_iff.mpr h.nd
/-- what is known of the class -/
structure ChM (K : PySem.W.Frag) (mg : Str → Option Value) (CF CC : Addr) : Prop where
  cl : Cls K CC
  nF : NoAttr K CC "frame"
  nP : NoAttr K CC "parts"
  cf : Cls K CF
  nT : NoAttr K CF "top"
  tuple : mg "tuple" = none
  len : mg "len" = none
abbrev sChC : Stmt := inClass (top 31) 3
abbrev sChN : Stmt := inClass (top 31) 5
abbrev sChL : Stmt := inClass (top 31) 7
theorem scChC : FnScope ["self", "marks", "part", "cell"] ["self"] (defScope sChC) := ⟨rfl, rfl, rfl, by decide +kernel, rfl, by decide +kernel, by decide +kernel⟩
theorem scChN : FnScope ["self", "word", "top", "digits", "cell"] ["self", "word"] (defScope sChN) := ⟨rfl, rfl, rfl, by decide +kernel, rfl, by decide +kernel, by decide +kernel⟩
def cellsV (t : Int) (L : List (Addr × List Str)) : List V := L.flatMap fun x => strv x.2 ++ [.int 0, .int t]
theorem cells_snoc {t : Int} {L : List (Addr × List Str)} {i : Nat} {y : Addr × List Str} (h : L[i]? = some y) : cellsV t (L.take (i + 1)) = cellsV t (L.take i) ++ (strv y.2 ++ [.int 0, .int t]) := by
  unfold cellsV
  rw [List.take_add_one, h, Option.toList_some, List.flatMap_append]
  simp
theorem cells_len (t : Int) (L : List (Addr × List Str)) : (cellsV t L).length = (allN L).length + 2 * L.length := by
  unfold cellsV allN
  induction L with
  | nil => rfl
  | cons x L ih =>
    rw [List.flatMap_cons, List.flatMap_cons, List.length_append, List.length_append, ih, List.length_append, List.length_cons]
    have : (strv x.2).length = x.2.length := List.length_map _
    simp only [List.length_cons, List.length_nil]
    omega
theorem allN_take_le (L : List (Addr × List Str)) (i : Nat) : (allN (L.take i)).length ≤ (allN L).length := by
  have e : allN L = allN (L.take i) ++ allN (L.drop i) := by
    unfold allN
    rw [← List.flatMap_append, List.take_append_drop]
  rw [e, List.length_append]
  omega
def spChC (ks : Kinds) (CF CC : Addr) : Sp := fun vs H Q _ => ∃ o f d L, vs = [.ref o] ∧ ChIs ks CF CC H o f d L ∧ ∀ p H', H p = none → H' p = some (.tup (cellsV d.t L)) → Same H H' → Q (.ref p) H'
def spWGetI (ks : Kinds) (CF CW : Addr) : Sp := fun vs H Q _ => ∃ a d gv z, vs = [.ref a, .str z] ∧ WdIs ks CF CW H a d gv ∧ z ∈ names d.ys ∧ Q (.int (wlv ks d gv z)) H
/-- what enters, behind the head -/
def digV (ks : Kinds) (e : FrD) (gv : List (Str × Int)) (t : Int) (L : List (Addr × List Str)) : List V := L.flatMap fun x => (x.2.map fun z => V.int (wlv ks e gv z)) ++ [.int t, .int t]
def spChN (ks : Kinds) (CF CC CW : Addr) : Sp := fun vs H Q _ => ∃ o f d L a e gv, vs = [.ref o, .ref a] ∧ ChIs ks CF CC H o f d L ∧ WdIs ks CF CW H a e gv ∧ (∀ z ∈ names d.ys, z ∈ names e.ys) ∧ ∀ p H', H p = none → H' p = some (.tup (.int 0 :: .int d.t :: (digV ks e gv d.t L).reverse)) → Same H H' → Q (.ref p) H'
def spChL (ks : Kinds) (CF CC : Addr) : Sp := fun vs H Q _ => ∃ o f d L, vs = [.ref o] ∧ ChIs ks CF CC H o f d L ∧ Q (.int L.length) H
section
variable {P : Program} {w : World} {K : PySem.W.Frag} {mg : Str → Option Value} {base : Heap}
theorem ok_wgi {f CF CW : Addr} {fd : FuncData} {ks : Kinds} (F : Fun K "__getitem__" "Word.__getitem__" (sWd 5) f fd) (T : WfT P w K mg base ks CF CW) (TI : MetN P w K mg base CX0 1 CF "__contains__" ["self", "x"] (spFIs K ks CF)) : FnOk P w K mg base CX0 2 f fd ["self", "at"] (spWGetI ks CF CW) := by
  have sc : FnScope ["self", "at"] ["self", "at"] (defScope (sWd 5)) := ⟨rfl, rfl, rfl, by decide +kernel, rfl, by decide +kernel, by decide +kernel⟩
  refine F.ok sc (fun vs H Q E h => ?_) (fun cdv A outer s H vs Q E hr h => ?_)
  · obtain ⟨a, d, gv, z, rfl, _⟩ := h
    rfl
  · obtain ⟨a, d, gv, z, rfl, hW, hz, k⟩ := h
    obtain ⟨fr, dx, D, ea, eD, hne, hF⟩ := hW.ex
    obtain ⟨dy, DD, ef, _⟩ := hF.at_
    refine ⟨_, pss_cons (ps_if (pt_cmpR (op_inN TI hr) (pv 1) (pe_fld (pv 0) rfl) (by rfl)) (pss_one (ps_ret (pe_dget2 (hu_of hr) (pe_fld (pv 0) rfl) (pv 1) (pe_fld (pe_fld (pv 0) rfl) rfl) ⟨rfl, rfl, rfl, rfl⟩))) pss_nil) pss_never, ?_⟩
    refine ⟨_, rfl, _, rfl, a, CW, dx, _, _, rfl, ea, T.cw, T.nF, wdF_frame _ _, ?_⟩
    refine ⟨fr, dy, _, rfl, ef, fr, d, _, rfl, hF, ?_⟩
    refine .inl ⟨z, rfl, hz, true, rfl, _, rfl, iteT ?_⟩
    refine ⟨_, rfl, a, CW, dx, _, _, rfl, ea, T.cw, T.nL, wdF_lv _ _, D, rfl, .inl ⟨_, .inl eD⟩, _, rfl, _, rfl, a, CW, dx, _, _, rfl, ea, T.cw, T.nF, wdF_frame _ _, fr, CF, dy, _, _, rfl, ef, T.cf, T.nT, frF_top _ _ _ _, _, DGet.k (k := Sum.inr z) eD, ?_⟩
    rw [valV_lv]
    have e2 : (Option.map V.int (lvG (lvAll ks d gv) z)).getD (.int d.t) = .int (wlv ks d gv z) := by
      unfold wlv lvl
      cases lvG (lvAll ks d gv) z <;> rfl
    rw [e2]
    exact k
theorem ok_chl {f CF CC : Addr} {fd : FuncData} {ks : Kinds} (F : Fun K "__len__" "Chain.__len__" sChL f fd) (T : ChM K mg CF CC) : FnOk P w K mg base CX0 1 f fd ["self"] (spChL ks CF CC) := by
  have sc : FnScope ["self"] ["self"] (defScope sChL) := ⟨rfl, rfl, rfl, by decide +kernel, rfl, by decide +kernel, by decide +kernel⟩
  refine F.ok sc (fun vs H Q E h => ?_) (fun cdv A outer s H vs Q E hr h => ?_)
  · obtain ⟨o, f, d, L, rfl, _⟩ := h
    rfl
  · obtain ⟨o, f, d, L, rfl, hC, k⟩ := h
    obtain ⟨dx, B, h1, h2, h3⟩ := hC.at_
    refine ⟨_, pss_one (ps_ret (pe_callB call_len_seq (by rfl) T.len PySem.boot_len (pa_cons (pe_fld (pv 0) rfl) pa_nil))), ?_⟩
    refine ⟨_, rfl, o, CC, dx, _, _, rfl, h1, T.cl, T.nP, chF_parts _ _, B, _, rfl, .inr (SqT.of h2), ?_⟩
    rw [refsB_len]
    exact k
def tSt (K : PySem.W.Frag) : TE := tTup (StX.tStar K (tVar 2) (StX.tStar K (tVar 1) tNil))
theorem ok_chc {f CF CC : Addr} {fd : FuncData} {ks : Kinds} (F : Fun K "cells" "Chain.cells" sChC f fd) (T : ChM K mg CF CC) : FnOk P w K mg base CX0 1 f fd ["self"] (spChC ks CF CC) := by
  refine F.ok scChC (fun vs H Q E h => ?_) (fun cdv A outer s H vs Q E hr h => ?_)
  · obtain ⟨o, f, d, L, rfl, _⟩ := h
    rfl
  · obtain ⟨o, f, d, L, rfl, hC, k⟩ := h
    obtain ⟨dx, B, h1, h2, h3⟩ := hC.at_
    obtain ⟨dy, DD, ef, _⟩ := hC.fr.at_
    have h40 := hC.p.le40 hC.fr
    have h8 := hC.p.l8
    refine ⟨_, pss_cons (ps_set (i := 1) scChC.nd rfl (Or.inr rfl) (pe_tup (pa_cons pe_int (pa_cons (pe_fld (pe_fld (pv 0) rfl) rfl) pa_nil))))
      (pss_one (ps_ret (pe_callTy (T := "tuple") call_tuple_of (by rfl) T.tuple (by decide +kernel) (pa_cons (pe_lc2 (wi1 := iTup K (tSt K)) (te := tVar 3) (tt := tYes) (tt1 := tYes) (own := [("part", 2), ("cell", 3)]) (vs1 := [3]) (g := gName 2) (g1 := gName 3) rfl scChC.nd (pi_tup (pe_fld (pv 0) rfl)) (blkOk_by (N := ["self", "marks", "part", "cell"]) (sc := defScope sChC) (by decide +kernel)) (by decide)
          (fun _ _ _ _ _ => pg_name (i := 2) scChC.nd rfl (Or.inl rfl)) (fun _ _ _ _ _ => pts_nil) (fun _ _ _ _ _ => pi_tup (pe_tup (StX.pa_star (pv 2) (StX.pa_star (pv 1) pa_nil)))) (fun _ _ _ _ _ => pg_name (i := 3) scChC.nd rfl (Or.inl rfl)) (fun _ _ _ _ _ => pts_nil) (fun _ _ _ _ _ => pv 3)) pa_nil)))), ?_⟩
    refine ⟨_, rfl, o, CC, dx, _, _, rfl, h1, T.cl, T.nF, chF_frame _ _, f, CF, dy, _, _, rfl, ef, T.cf, T.nT, frF_top _ _ _ _, by show 2 ≤ sizeLine; decide, fun m hm => ?_⟩
    have s1 := same_at (o := .tup [V.int 0, .int d.t]) hm
    obtain ⟨H1, e1⟩ : ∃ H1, H1 = upd H m (.tup [V.int 0, .int d.t]) := ⟨_, rfl⟩
    have hm1 : H1 m = some (.tup [V.int 0, .int d.t]) := by rw [e1, upd_same]
    rw [← e1] at s1 ⊢
    refine ⟨_, rfl, o, CC, dx, _, _, rfl, s1 _ _ h1, T.cl, T.nP, chF_parts _ _, B, rfl, ⟨_, SqT.of (s1 _ _ h2)⟩, fun D hD => ?_⟩
    refine lc2_it (walk_tup (K := K) (a := B) (xs := refsB L)) (fun i H' => Same H1 H' ∧ H' D = some (.lst (cellsV d.t (L.take i)))) ⟨same_at hD, upd_same⟩ (fun i H' _ p => SqT.of (p.1 _ _ (s1 _ _ h2))) ?_ ?_
    · rintro i x Ho Ha hi ⟨sa, da⟩ ⟨rfl, hx⟩
      obtain ⟨y, hy, ey, rfl⟩ := refsB_at hx
      refine ⟨rfl, ?_⟩
      unfold tYes
      dsimp only
      rw [if_pos rfl]
      have hyl : (strv y.2).length = y.2.length := List.length_map _
      have hi' : i < L.length := by rw [← refsB_len L]; exact hi
      have hle : (cellsV d.t (L.take i)).length + (y.2.length + 2) ≤ 60 := by
        have q := cells_len d.t (L.take (i + 1))
        rw [cells_snoc ey, List.length_append, List.length_append, hyl] at q
        have q2 := allN_take_le L (i + 1)
        simp only [List.length_cons, List.length_nil, List.length_take] at q
        omega
      refine ⟨_, rfl, y.1, _, rfl, .inl (SqT.of (sa _ _ (s1 _ _ (h3 y hy)))), _, rfl, m, _, rfl, .inl (SqT.of (sa _ _ hm1)), ?_, fun c hc => ?_⟩
      · rw [List.length_append, hyl]
        exact Nat.le_trans (show _ ≤ 62 by simp only [List.length_append, List.length_cons, List.length_nil]; omega) (by decide)
      obtain ⟨row, er⟩ : ∃ row, row = strv y.2 ++ ([V.int 0, .int d.t] ++ []) := ⟨_, rfl⟩
      have erow : row = strv y.2 ++ [V.int 0, .int d.t] := by rw [er, List.append_nil]
      rw [← er] at *
      have sc := same_at (o := .tup row) hc
      have hrl : row.length = y.2.length + 2 := by rw [erow, List.length_append, hyl]; rfl
      have hcr : upd Ha c (.tup row) c = some (.tup row) := upd_same
      obtain ⟨Hb, eb⟩ : ∃ Hb, Hb = upd Ha c (.tup row) := ⟨_, rfl⟩
      rw [← eb] at sc hcr ⊢
      refine ⟨c, rfl, ⟨_, SqT.of hcr⟩, ?_⟩
      have ncD : c ≠ D := fun q => by rw [q, da] at hc; cases hc
      refine in_it (walk_tup (K := K) (a := c) (xs := row)) (fun j H' => Same H1 H' ∧ H' c = some (.tup row) ∧ H' D = some (.lst (cellsV d.t (L.take i) ++ row.take j))) ⟨sa.trans sc, hcr, by rw [List.take_zero, List.append_nil]; exact sc _ _ da⟩ (fun j H' _ p => SqT.of p.2.1) ?_ ?_
      · rintro j x Hc Hd hj ⟨sc', cc, dc⟩ ⟨rfl, hxj⟩
        refine ⟨rfl, ?_⟩
        dsimp only
        rw [if_pos rfl]
        refine ⟨_, rfl, _, dc, ?_, fun b o e => ?_, ?_, ?_⟩
        · rw [List.length_append, List.length_take]
          exact Nat.lt_of_le_of_lt (show _ ≤ 60 by omega) (by decide)
        · rw [upd_ne (ne_of_none e hD)]
          exact sc' _ _ e
        · rw [upd_ne ncD]
          exact cc
        · rw [upd_same, List.take_add_one, hxj, Option.toList_some, List.append_assoc]
      · rintro Hc ⟨sc', cc, dc⟩
        rw [List.take_length] at dc
        refine ⟨sc', ?_⟩
        rw [cells_snoc ey, ← erow]
        exact dc
    rintro H2 ⟨s2, d2⟩
    rw [refsB_len, List.take_length] at d2
    refine ⟨D, _, rfl, .inl ⟨SqL.of d2, fun p hp => ?_⟩⟩
    exact k p _ ((s1.trans s2).free hp) upd_same ((s1.trans s2).trans (same_at hp))
end
end Sj
namespace Sj
open PySem L2 Sup StK Own Shw Exg Grd KepE
open NdefX (NF NScope ncx envF startF nscope_by)
open C8 (pss_cut tCut)
/-! k65: part_of, entering, == of chains -/
section
variable {P : Program} {w : World} {K : PySem.W.Frag} {mg : Str → Option Value} {base : Heap}
def teEn (K : PySem.W.Frag) (ks : Kinds) (CF CW : Addr) : TE := tIf (tB (tCB (rIsi K) (tCons (tVar 4) (tCons (tC (.ty "str")) tNil)))) (tItO CW (spWGetI ks CF CW) E0 (tVar 1) (tVar 4)) (tVar 2)
theorem dig_len (ks : Kinds) (e : FrD) (gv : List (Str × Int)) (t : Int) (L : List (Addr × List Str)) : (digV ks e gv t L).length = (cellsV t L).length := by
  unfold digV cellsV
  induction L with
  | nil => rfl
  | cons x L ih =>
    rw [List.flatMap_cons, List.flatMap_cons, List.length_append, List.length_append, ih, List.length_append, List.length_append, List.length_map]
    have : (strv x.2).length = x.2.length := List.length_map _
    rw [this]
    rfl
/-- a cell is the name of a leg, with its digit, or a mark, with top -/
theorem dig_at (ks : Kinds) (e : FrD) (gv : List (Str × Int)) (t : Int) (L : List (Addr × List Str)) (i : Nat) (x : V) (h : (cellsV t L)[i]? = some x) : (∃ z ∈ allN L, x = .str z ∧ (digV ks e gv t L)[i]? = some (.int (wlv ks e gv z))) ∨ (∃ n, x = .int n) ∧ (digV ks e gv t L)[i]? = some (.int t) := by
  induction L generalizing i with
  | nil => cases h
  | cons y L ih =>
    have e1 : cellsV t (y :: L) = (strv y.2 ++ [V.int 0, .int t]) ++ cellsV t L := rfl
    have e2 : digV ks e gv t (y :: L) = ((y.2.map fun z => V.int (wlv ks e gv z)) ++ [V.int t, .int t]) ++ digV ks e gv t L := rfl
    have e3 : allN (y :: L) = y.2 ++ allN L := rfl
    have l1 : (strv y.2).length = y.2.length := List.length_map _
    have l2 : (y.2.map fun z => V.int (wlv ks e gv z)).length = y.2.length := List.length_map _
    rw [e1] at h
    rw [e2, e3]
    by_cases hi : i < y.2.length + 2
    · rw [List.getElem?_append_left (by rw [List.length_append, l1]; exact hi)] at h
      rw [List.getElem?_append_left (by rw [List.length_append, l2]; exact hi)]
      by_cases hi2 : i < y.2.length
      · rw [List.getElem?_append_left (by rw [l1]; exact hi2)] at h
        rw [List.getElem?_append_left (by rw [l2]; exact hi2)]
        have ex : (strv y.2)[i]? = some (.str y.2[i]) := by show (y.2.map V.str)[i]? = _; rw [List.getElem?_map, List.getElem?_eq_getElem hi2]; rfl
        rw [ex] at h
        exact .inl ⟨y.2[i], List.mem_append_left _ (List.getElem_mem hi2), (Option.some.inj h).symm, by rw [List.getElem?_map, List.getElem?_eq_getElem hi2]; rfl⟩
      · rw [List.getElem?_append_right (by rw [l1]; omega), l1] at h
        rw [List.getElem?_append_right (by rw [l2]; omega), l2]
        rcases (show i - y.2.length = 0 ∨ i - y.2.length = 1 by omega) with q | q <;> rw [q] at h ⊢ <;> exact .inr ⟨⟨_, (Option.some.inj h).symm⟩, rfl⟩
    · rw [List.getElem?_append_right (by rw [List.length_append, l1]; simp only [List.length_cons, List.length_nil]; omega), List.length_append, l1] at h
      rw [List.getElem?_append_right (by rw [List.length_append, l2]; simp only [List.length_cons, List.length_nil]; omega), List.length_append, l2]
      simp only [List.length_cons, List.length_nil] at h ⊢
      rcases ih _ h with ⟨z, hz, r1, r2⟩ | r
      · exact .inl ⟨z, List.mem_append_right _ hz, r1, r2⟩
      · exact .inr r
theorem ok_chn {f CF CC CW : Addr} {fd : FuncData} {ks : Kinds} (F : Fun K "entering" "Chain.entering" sChN f fd) (T : ChM K mg CF CC) (TC : PropN P w K mg base 1 CC "cells" (spChC ks CF CC)) (TG : MetN P w K mg base CX0 2 CW "__getitem__" ["self", "at"] (spWGetI ks CF CW)) (mI : mg "isinstance" = none) (mS : mg "str" = none) :
    FnOk P w K mg base CX0 4 f fd ["self", "word"] (spChN ks CF CC CW) := by
  refine F.ok scChN (fun vs H Q E h => ?_) (fun cdv A outer s H vs Q E hr h => ?_)
  · obtain ⟨o, f, d, L, a, e, gv, rfl, _⟩ := h
    rfl
  · obtain ⟨o, f, d, L, a, e, gv, rfl, hC, hW, hle, k⟩ := h
    obtain ⟨dx, B, h1, h2, h3⟩ := hC.at_
    obtain ⟨dy, DD, ef, _⟩ := hC.fr.at_
    obtain ⟨wx, wfs, ew⟩ := hW.ins
    have h40 := hC.p.le40 hC.fr
    have h8 := hC.p.l8
    refine ⟨_, pss_cons (ps_set (i := 2) scChN.nd rfl (Or.inr rfl) (pe_fld (pe_fld (pv 0) rfl) rfl))
      (pss_cons (ps_setLc (i := 3) (te := teEn K ks CF CW) (own := [("cell", 4)]) (g := gName 4) (tt := tYes) rfl scChN.nd rfl rfl (sw_true rfl rfl rfl (by decide +kernel)) (pi_tup (pe_propS (S := fun C => C = CC) (spP := fun _ => spChC ks CF CC) (pv 0) (fun C e => by rw [e]; exact TC) (hr.mono (by decide))))
        (blkOk_by (N := ["self", "word", "top", "digits", "cell"]) (sc := defScope sChN) (by decide +kernel)) (fun _ _ _ _ _ => pg_name (i := 4) scChN.nd rfl (Or.inl rfl)) (fun _ _ _ _ _ => pts_nil)
        (fun _ _ _ _ _ => pe_ifExp (pt_val (pe_callB call_isi (by rfl) mI (by decide +kernel) (pa_cons (pv 4) (pa_cons (pe_bltn (by rfl) mS (by decide +kernel) (v := .ty "str") rfl) pa_nil)))) (pe_itN TG hr pass0 (pv 1) (pv 4)) (pv 2)))
      (pss_one (ps_ret (pe_tup (pa_cons pe_int (pa_cons (pv 2) (StX.pa_star (pe_revL (pv 3)) pa_nil))))))), ?_⟩
    refine ⟨_, rfl, o, CC, dx, _, _, rfl, h1, T.cl, T.nF, chF_frame _ _, f, CF, dy, _, _, rfl, ef, T.cf, T.nT, frF_top _ _ _ _, ?_⟩
    refine ⟨_, rfl, o, CC, dx, _, rfl, h1, rfl, o, f, d, L, rfl, hC, fun p H1 hp hv s1 => ?_⟩
    refine ⟨p, rfl, ⟨_, SqT.of hv⟩, fun D hD => ?_⟩
    have hcl := cells_len d.t L
    have hdl := dig_len ks e gv d.t L
    refine lc_it (walk_tup (K := K) (a := p) (xs := cellsV d.t L)) (fun i H' => Same H1 H' ∧ H' D = some (.lst ((digV ks e gv d.t L).take i))) ⟨same_at hD, by rw [List.take_zero]; exact upd_same⟩ (fun i H' _ q => SqT.of (q.1 _ _ hv)) ?_ ?_
    · rintro i x Ho Ha hi ⟨sa, da⟩ ⟨rfl, hx⟩
      refine ⟨rfl, ?_⟩
      unfold tYes
      dsimp only
      rw [if_pos rfl]
      have fin : ∀ v, (digV ks e gv d.t L)[i]? = some v → ∃ acc, Ha D = some (.lst acc) ∧ acc.length < sizeLine ∧ (Same H1 (upd Ha D (.lst (acc ++ [v]))) ∧ upd Ha D (.lst (acc ++ [v])) D = some (.lst ((digV ks e gv d.t L).take (i + 1)))) := fun v ev => by
        refine ⟨_, da, ?_, fun c u q => ?_, ?_⟩
        · rw [List.length_take]
          exact Nat.lt_of_le_of_lt (show _ ≤ 60 by omega) (by decide)
        · rw [upd_ne (ne_of_none q hD)]
          exact sa _ _ q
        · rw [upd_same, List.take_add_one, ev]
          rfl
      rcases dig_at ks e gv d.t L i x hx with ⟨z, hz, rfl, ed⟩ | ⟨⟨n, rfl⟩, ed⟩
      · refine ⟨_, rfl, _, _, .type "str", .type "str", true, rfl, .ty _, .base (.str _), rfl, _, rfl, iteT ?_⟩
        refine ⟨_, rfl, _, rfl, a, wx, wfs, rfl, (s1.trans sa) _ _ ew, a, e, gv, z, rfl, hW.same (s1.trans sa), hle z (hC.p.pm.mem_iff.mp hz), fin _ ed⟩
      · refine ⟨_, rfl, _, _, .type "int", .type "str", false, rfl, .ty _, .base (.int _), rfl, _, rfl, iteF ?_⟩
        exact ⟨_, rfl, fin _ ed⟩
    rintro H2 ⟨s2, d2⟩
    have hcl2 : (cellsV d.t L).length = (digV ks e gv d.t L).length := hdl.symm
    rw [hcl2, List.take_length] at d2
    refine ⟨_, rfl, _, rfl, D, _, rfl, SqL.of d2, fun q hq => ?_⟩
    have s3 := same_at (o := .lst (digV ks e gv d.t L).reverse) hq
    refine ⟨q, _, rfl, .inr (SqL.of upd_same), ?_, fun c hc => ?_⟩
    · simp only [List.length_append, List.length_reverse, List.length_cons, List.length_nil]
      exact Nat.le_trans (show _ ≤ 100 by omega) (by decide)
    have s4 := same_at (o := .tup (.int 0 :: .int d.t :: ((digV ks e gv d.t L).reverse ++ []))) hc
    refine k c _ ((s1.trans (s2.trans s3)).free hc) ?_ (s1.trans (s2.trans (s3.trans s4)))
    show upd _ c (.tup (.int 0 :: .int d.t :: ((digV ks e gv d.t L).reverse ++ []))) c = _
    rw [upd_same, List.append_nil]
end
end Sj
namespace Sj
open PySem L2 Sup StK Own Shw Exg Grd KepE
open NdefX (NF NScope ncx envF startF nscope_by)
open C8 (pss_cut tCut)
/-! k66: _law_parts -/
abbrev sPar : Stmt := top 60
abbrev nPar : List Str := ["_law_pen_here", "_law_bare_here", "_law_left", "_law_found", "_law_k"]
theorem scPar : FnScope nPar ["_law_pen_here", "_law_bare_here"] (defScope sPar) := ⟨rfl, rfl, rfl, by decide +kernel, rfl, by decide +kernel, by decide +kernel⟩
theorem allN_set : ∀ {G : List (Addr × List Str)} {d : Nat} {r : Addr × List Str} (z : Str), G[d]? = some r → (allN (G.set d (r.1, r.2 ++ [z]))).Perm (allN G ++ [z])
  | [], _, _, _, h => by cases h
  | x :: G, 0, r, z, h => by
    obtain rfl := Option.some.inj h
    show ((x.2 ++ [z]) ++ allN G).Perm ((x.2 ++ allN G) ++ [z])
    rw [List.append_assoc, List.append_assoc]
    exact List.Perm.append_left _ List.perm_append_comm
  | x :: G, d + 1, r, z, h => by
    show (x.2 ++ allN (G.set d (r.1, r.2 ++ [z]))).Perm ((x.2 ++ allN G) ++ [z])
    rw [List.append_assoc]
    exact List.Perm.append_left _ (allN_set z h)
theorem fst_set : ∀ {G : List (Addr × List Str)} {d : Nat} {r : Addr × List Str} (w : List Str), G[d]? = some r → (G.set d (r.1, w)).map (·.1) = G.map (·.1)
  | [], _, _, _, h => by cases h
  | x :: G, 0, r, w, h => by
    obtain rfl := Option.some.inj h
    rfl
  | x :: G, d + 1, r, w, h => by
    show x.1 :: (G.set d (r.1, w)).map (·.1) = x.1 :: G.map (·.1)
    exact congrArg (x.1 :: ·) (fst_set w h)
theorem refs_set {G : List (Addr × List Str)} {d : Nat} {r : Addr × List Str} (w : List Str) (h : G[d]? = some r) : refsB (G.set d (r.1, w)) = refsB G := by
  have e : ∀ G : List (Addr × List Str), refsB G = (G.map (·.1)).map V.ref := fun G => by unfold refsB; rw [List.map_map]; rfl
  rw [e, e, fst_set w h]
theorem mem_set {G : List (Addr × List Str)} {d : Nat} {r : Addr × List Str} {w : List Str} (nd : (G.map (·.1)).Nodup) (h : G[d]? = some r) {x : Addr × List Str} (hx : x ∈ G.set d (r.1, w)) : x = (r.1, w) ∨ (x ∈ G ∧ x.1 ≠ r.1) := by
  obtain ⟨j, hj⟩ := List.mem_iff_getElem?.mp hx
  rw [List.getElem?_set] at hj
  by_cases e : d = j
  · rw [if_pos e] at hj
    split at hj
    · exact .inl (Option.some.inj hj).symm
    · cases hj
  · rw [if_neg e] at hj
    refine .inr ⟨List.mem_of_getElem? hj, fun q => e ?_⟩
    have h1 : (G.map (·.1))[d]? = some r.1 := by rw [List.getElem?_map, h]; rfl
    have h2 : (G.map (·.1))[j]? = some r.1 := by rw [List.getElem?_map, hj, ← q]; rfl
    exact (List.getElem?_inj (List.getElem?_eq_some_iff.mp h1).1 nd).mp (h1.trans h2.symm)
/-- rows of texts that are new since H, in a list -/
structure RowsN (H H' : Hp) (q : Addr) (G : List (Addr × List Str)) : Prop where
  at_ : H' q = some (.lst (refsB G))
  row : ∀ x ∈ G, H' x.1 = some (.lst (strv x.2)) ∧ H x.1 = none ∧ x.1 ≠ q
  nd : (G.map (·.1)).Nodup
  new : H q = none
  nm : ∀ x ∈ G, sysModules ≠ x.1
theorem RowsN.same {H H' H2 : Hp} {q : Addr} {G : List (Addr × List Str)} (h : RowsN H H' q G) (s : Same H' H2) : RowsN H H2 q G := ⟨s _ _ h.at_, fun x hx => ⟨s _ _ (h.row x hx).1, (h.row x hx).2⟩, h.nd, h.new, h.nm⟩
theorem RowsN.but {H H' H2 : Hp} {q p l : Addr} {cs : List Int} {n : Nat} {G : List (Addr × List Str)} (h : RowsN H H' q G) (hP : Pen H p l cs n) (s : But H' H2 p) : RowsN H H2 q G := ⟨s _ _ (nep hP h.new) h.at_, fun x hx => ⟨s _ _ (nep hP (h.row x hx).2.1) (h.row x hx).1, (h.row x hx).2⟩, h.nd, h.new, h.nm⟩
def spPar : Sp := fun vs H Q _ => ∃ (p l : Addr) (cs : List Int) (n : Nat) (b : Addr) (d : BareD), vs = [.ref p, .ref b] ∧ Pen H p l cs n ∧ BareAt H b d p ∧ d.ok ∧ n < 80000 ∧
  ∀ q G H', RowsN H H' q G → 1 ≤ G.length → G.length ≤ 8 → (allN G).Perm (d.ds ++ d.ls) → Pen H' p l cs (n + 40) → But H H' p → Q (.ref q) H'
def muL (a : Addr) (H : Hp) : Nat := match H a with
  | some (.lst xs) => xs.length
  | _ => 0
theorem muL_of {a : Addr} {H : Hp} {xs : List V} (h : H a = some (.lst xs)) : muL a H = xs.length := by
  unfold muL
  rw [h]
section
variable {P : Program} {w : World} {K : PySem.W.Frag} {mg : Str → Option Value} {base : Heap}
theorem ok_par {f : Addr} {fd : FuncData} (F : Fun K "_law_parts" "_law_parts" sPar f fd) (T : DwT P w K mg base) (mR : mg "range" = none) : FnOk P w K mg base CX0 2 f fd ["_law_pen_here", "_law_bare_here"] spPar := by
  obtain ⟨fD, fdD, mD, kD, bD, GD⟩ := T.draw
  refine F.ok scPar (fun vs H Q E h => ?_) (fun cdv A outer s H vs Q E hr h => ?_)
  · obtain ⟨p, l, cs, n, b, d, rfl, _⟩ := h
    rfl
  · obtain ⟨p, l, cs, n, b, d, rfl, hP, hB, ok, hn, k⟩ := h
    have hu := hu_of hr
    refine ⟨_, pss_cons (ps_par (i := 2) (j := 3) (by rfl) scPar.nd rfl rfl (by decide) rfl rfl (pa_cons (pe_callB cr_sortedS (by rfl) T.sorted (by decide +kernel) (pa_cons (pe_op op_cat (pe_dget hu (pv 1) pe_str (fun _ _ => rfl)) (pe_dget hu (pv 1) pe_str (fun _ _ => rfl))) pa_nil)) (pa_cons
        (pe_lc (te := tLstN tNil) (tt := tYes) (own := [("_law_k", 4)]) (g := gName 4) rfl scPar.nd (pi_range1 rfl mR (pa_cons (pe_op op_add pe_int (pe_call GD hr rfl mD kD bD .nil pass0 (pa_cons (pv 0) (pa_cons pe_int pa_nil)))) pa_nil))
        (blkOk_by (N := nPar) (sc := defScope sPar) (by decide +kernel)) (fun _ _ _ _ _ => pg_name (i := 4) scPar.nd rfl (Or.inl rfl)) (fun _ _ _ _ _ => pts_nil) (fun _ _ _ _ _ => pe_lstN pa_nil)) pa_nil)) (by rfl))
      (pss_cons (ps_while PassesOwn.never (pt_cmpR (op_neNil hr.units) (pv 2) (pe_lst pa_nil) (nomark _))
        (pss_one (ps_expr (pe_bm PySem.F.plainAttrs_list PySem.F.slot_list_append PySem.F.type_list_append mt_append (pe_ix ix_list (pv 3) (pe_call GD hr rfl mD kD bD .nil pass0 (pa_cons (pv 0) (pa_cons (pe_callB call_len_seq (by rfl) T.bi.len PySem.boot_len (pa_cons (pv 3) pa_nil)) pa_nil))) (fun _ _ => rfl))
          (pa_cons (pe_bm PySem.F.plainAttrs_list PySem.F.slot_list_pop PySem.F.type_list_pop mt_popAt (pv 2) (pa_cons (pe_call GD hr rfl mD kD bD .nil pass0 (pa_cons (pv 0) (pa_cons (pe_callB call_len_seq (by rfl) T.bi.len PySem.boot_len (pa_cons (pv 2) pa_nil)) pa_nil))) pa_nil)) pa_nil)))))
      (pss_one (ps_ret (pv 3)))), ?_⟩
    obtain ⟨dl, ll, rl, hb, hdl, hll, hrl, hdp, hlp, hrp⟩ := hB.ex
    have c1 : (strv d.ds).length = d.ds.length := List.length_map _
    have c2 : (strv d.ls).length = d.ls.length := List.length_map _
    have hle := ok.le
    refine ⟨_, rfl, b, _, rfl, DGet.k (k := Sum.inr "drivers") hb, _, rfl, b, _, rfl, DGet.k (k := Sum.inr "listeners") hb, dl, ll, _, _, rfl, rfl, hdl, hll, Nat.le_trans (show _ ≤ 16 by rw [c1, c2]; omega) (by decide), fun p2 hp2 => ?_⟩
    have s2 := same_at (o := .lst (strv d.ds ++ strv d.ls)) hp2
    refine ⟨p2, d.ds ++ d.ls, rfl, SqL.of ?_, by rw [List.length_append]; omega, fun zs tl hzp hso htl => ?_⟩
    · rw [upd_same]
      show _ = some (HO.lst (List.map _ _))
      rw [List.map_append]
      rfl
    have s3 := s2.trans (same_at (o := .lst (zs.map V.str)) htl)
    have htlH : H tl = none := s2.free htl
    obtain ⟨H3, e3⟩ : ∃ H3, H3 = upd (upd H p2 (.lst (strv d.ds ++ strv d.ls))) tl (.lst (zs.map V.str)) := ⟨_, rfl⟩
    have htl3 : H3 tl = some (.lst (strv zs)) := by rw [e3, upd_same]; rfl
    rw [← e3] at s3 ⊢
    have hz16 : zs.length ≤ 16 := by rw [hzp.length_eq, List.length_append]; exact hle
    have P3 := hP.same s3
    refine ⟨_, rfl, p, l, cs, n, 8, rfl, P3, by decide, by decide, by omega, fun d8 i8 g8 H4 d80 d88 i80 in8 hp4 b34 => ?_⟩
    have P4 := P3.next i80 in8 hp4 b34
    have tlp : tl ≠ p := nep hP htlH
    have htl4 := b34 _ _ tlp htl3
    have b04 : But H H4 p := (But.of s3).trans b34
    refine ⟨_, _, rfl, rfl, _, rfl, by omega, by omega, fun q hq => ?_⟩
    have hqH : H q = none := by
      cases e : H q with
      | none => rfl
      | some o =>
        by_cases qp : q = p
        · obtain ⟨i', g', w1, _⟩ := P4
          rw [← qp, hq] at w1
          cases w1
        · rw [b04 _ _ qp e] at hq
          cases hq
    have hqp : q ≠ p := nep hP hqH
    have en : ((1 : Int) + d8).toNat = d8.toNat + 1 := by omega
    rw [en]
    have free4 : ∀ {r : Addr} {H' : Hp}, But H H' p → r ≠ p → H' r = none → H r = none := fun {r H'} bb rp hr0 => by
      cases e : H r with
      | none => rfl
      | some o => rw [bb _ _ rp e] at hr0; cases hr0
    refine lc_range (n := d8.toNat + 1) (fun i H' => ∃ G : List (Addr × List Str), G.length = i ∧ allN G = [] ∧ H' q = some (.lst (refsB G)) ∧ (∀ x ∈ G, (H' x.1 = some (.lst (strv x.2)) ∧ H x.1 = none ∧ x.1 ≠ q) ∧ x.1 ≠ tl ∧ sysModules ≠ x.1) ∧ (G.map (·.1)).Nodup ∧ Pen H' p l cs (n + 1) ∧ But H H' p ∧ H' tl = some (.lst (strv zs))) ?_ ?_ ?_
    · have s5 := same_at (o := .lst []) hq
      exact ⟨[], rfl, rfl, upd_same, (fun x hx => (by cases hx)), List.nodup_nil, P4.same s5, b04.same s5, s5 _ _ htl4⟩
    · rintro i H5 hi ⟨G, hGl, hGe, hq5, hrow, hnd, P5, b05, htl5⟩
      refine ⟨rfl, ?_⟩
      unfold tYes
      dsimp only
      rw [if_pos rfl]
      refine ⟨by show 0 ≤ sizeLine; decide, fun r hr0 hnr => ?_⟩
      have s6 := same_at (o := .lst []) hr0
      have rq : r ≠ q := fun e => by rw [e, hq5] at hr0; cases hr0
      have rp : r ≠ p := nep P5 hr0
      have rtl : r ≠ tl := fun e => by rw [e, htl5] at hr0; cases hr0
      have tlq : tl ≠ q := fun e => by rw [e, hq] at htl4; cases htl4
      have off : ∀ {c : Addr} {o : HO}, c ≠ q → upd H5 r (.lst []) c = some o → upd (upd H5 r (.lst [])) q (.lst (refsB G ++ [.ref r])) c = some o := fun {c o} h e => by rw [upd_ne h]; exact e
      refine ⟨refsB G, s6 _ _ hq5, ?_, G ++ [(r, [])], by rw [List.length_append, hGl]; rfl, ?_, ?_, fun x hx => ?_, ?_, ?_, ?_, ?_⟩
      · rw [refsB_len, hGl]
        exact Nat.lt_of_lt_of_le (show i < 9 by omega) (by decide)
      · unfold allN at hGe ⊢
        rw [List.flatMap_append, hGe]
        rfl
      · rw [upd_same]
        unfold refsB
        rw [List.map_append]
        rfl
      · rcases List.mem_append.mp hx with hx | hx
        · obtain ⟨⟨h1, h2, h3⟩, h4⟩ := hrow x hx
          exact ⟨⟨off h3 (s6 _ _ h1), h2, h3⟩, h4⟩
        · obtain rfl := List.mem_singleton.mp hx
          exact ⟨⟨off rq upd_same, free4 b05 rp hr0, rq⟩, rtl, hnr⟩
      · rw [List.map_append, List.nodup_append]
        refine ⟨hnd, by simp, fun a ha b hb e => ?_⟩
        obtain ⟨x, hx, rfl⟩ := List.mem_map.mp ha
        have : b = r := by simpa using hb
        rw [this] at e
        have := (hrow x hx).1.1
        rw [e, hr0] at this
        cases this
      · obtain ⟨i', g', w1, w2, w3⟩ := P5.same s6
        have lq : l ≠ q := fun z => by
          obtain ⟨_, _, _, v2, _⟩ := hP
          rw [z, hqH] at v2
          cases v2
        exact ⟨i', g', by rw [upd_ne (Ne.symm hqp)]; exact w1, by rw [upd_ne lq]; exact w2, w3⟩
      · intro c o hc e
        have cq : c ≠ q := fun z => by rw [z, hqH] at e; cases e
        exact off cq (s6 _ _ (b05 _ _ hc e))
      · exact off tlq (s6 _ _ htl5)
    rintro H5 ⟨G, hGl, hGe, hq5, hrow, hnd, P5, b05, htl5⟩
    have tlq : tl ≠ q := fun e => by rw [e, hq] at htl4; cases htl4
    have lH : ∃ o, H l = some o := by
      obtain ⟨_, _, _, v2, _⟩ := hP
      exact ⟨_, v2⟩
    refine ⟨_, _, rfl, ?_⟩
    refine while_by (fun σ H' => (∃ o4, σ = ([some (.ref p), some (.ref b), some (.ref tl), some (.ref q), o4] : List (Option V))) ∧ ∃ (G : List (Addr × List Str)) (rest : List Str), G.length = d8.toNat + 1 ∧ rest.length ≤ zs.length ∧ (allN G ++ rest).Perm zs ∧ RowsN H H' q G ∧ (∀ x ∈ G, x.1 ≠ tl) ∧ Pen H' p l cs (n + 1 + 2 * (zs.length - rest.length)) ∧ But H H' p ∧ H' tl = some (.lst (strv rest)))
      (fun σ H' => muL tl H') ⟨⟨_, rfl⟩, G, zs, hGl, Nat.le_refl _, by rw [hGe]; exact .refl _, ⟨hq5, fun x hx => (hrow x hx).1, hnd, hqH, fun x hx => (hrow x hx).2.2⟩, fun x hx => (hrow x hx).2.1, P5.mono (by omega), b05, htl5⟩ ?_ ?_
    · rintro σ H6 ⟨⟨o4, rfl⟩, G, rest, hGl, hrl, hper, hR, htx, P6, b06, htl6⟩
      refine ⟨_, rfl, by show 0 ≤ sizeLine; decide, fun e he => ?_⟩
      have s7 := same_at (o := .lst []) he
      refine ⟨tl, e, strv rest, rfl, rfl, s7 _ _ htl6, upd_same, _, rfl, ?_⟩
      have R7 := hR.same s7
      have P7 := P6.same s7
      have b07 := b06.same s7
      have htl7 := s7 _ _ htl6
      obtain ⟨H7, e7⟩ : ∃ H7, H7 = upd H6 e (.lst []) := ⟨_, rfl⟩
      rw [← e7] at R7 P7 b07 htl7 ⊢
      by_cases hre : rest = []
      · subst hre
        refine iteF ⟨_, rfl, k q G H7 R7 (by omega) (by omega) ?_ (P7.mono (by simp only [List.length_nil]; omega)) b07⟩
        rw [List.append_nil] at hper
        exact hper.trans hzp
      · have hpos : 0 < rest.length := List.length_pos_iff.mpr hre
        have crl : (strv rest).length = rest.length := List.length_map _
        have hmu : muL tl H6 = rest.length := by rw [muL_of htl6, crl]
        have hie : (!(strv rest).isEmpty) = true := by
          cases rest with
          | nil => exact absurd rfl hre
          | cons _ _ => rfl
        rw [hie]
        refine iteT ?_
        -- the row
        refine ⟨_, rfl, _, rfl, _, rfl, q, _, rfl, .inl (SqL.of R7.at_), p, l, cs, _, _, rfl, P7, by rw [refsB_len, hGl]; omega, by rw [refsB_len, hGl]; omega, by omega, fun da ia ga H8 da0 da1 ia0 in8 hp8 b78 => ?_⟩
        rw [refsB_len] at da1
        have P8 := P7.next ia0 in8 hp8 b78
        have R8 := R7.but hP b78
        have htl8 := b78 _ _ tlp htl7
        have b08 := b07.trans b78
        have hda : da.toNat < G.length := by omega
        have eda : da = ((da.toNat : Nat) : Int) := by omega
        have eG : G[da.toNat]? = some G[da.toNat] := List.getElem?_eq_getElem hda
        obtain ⟨r, er8⟩ : ∃ r, r = G[da.toNat] := ⟨_, rfl⟩
        rw [← er8] at eG
        have hrm : r ∈ G := List.mem_of_getElem? eG
        have egr : (refsB G)[da.toNat]? = some (.ref r.1) := by unfold refsB; rw [List.getElem?_map, eG]; rfl
        obtain ⟨r1, r2, r3⟩ := R8.row r hrm
        have rtl := htx r hrm
        refine ⟨q, _, da, _, rfl, rfl, SqL.of R8.at_, by rw [eda]; exact atI_nat egr, ?_⟩
        refine ⟨.inl ⟨rfl, _, SqL.of r1⟩, ?_⟩
        -- what is popped
        refine ⟨_, rfl, .inl ⟨rfl, _, SqL.of htl8⟩, _, rfl, _, rfl, tl, _, rfl, .inl (SqL.of htl8), p, l, cs, _, _, rfl, P8, by rw [crl]; omega, by rw [crl]; omega, by omega, fun dd id gd H9 dd0 dd1 id0 in9 hp9 b89 => ?_⟩
        rw [crl] at dd1
        have P9 := P8.next id0 in9 hp9 b89
        have R9 := R8.but hP b89
        have htl9 := b89 _ _ tlp htl8
        have b09 := b08.trans b89
        have hdd : dd.toNat < rest.length := by omega
        have ex : (strv rest)[dd.toNat]? = some (.str rest[dd.toNat]) := by show (rest.map V.str)[_]? = _; rw [List.getElem?_map, List.getElem?_eq_getElem hdd]; rfl
        obtain ⟨z, ez⟩ : ∃ z, z = rest[dd.toNat] := ⟨_, rfl⟩
        rw [← ez] at ex
        obtain ⟨q1, q2, q3⟩ := R9.row r hrm
        refine ⟨tl, strv rest, dd, dd.toNat, .str z, rfl, rfl, htl9, by omega, by omega, seqIndex_of dd0 (by rw [crl]; omega), ex, r.1, _, _, rfl, rfl, by rw [upd_ne rtl]; exact q1, ?_, ?_⟩
        · show (List.map _ r.2).length < _
          rw [List.length_map]
          have h1 : r.2.length ≤ (allN G).length := by
            obtain ⟨A, B, eAB⟩ := List.append_of_mem hrm
            unfold allN
            rw [eAB, List.flatMap_append, List.flatMap_cons, List.length_append, List.length_append]
            omega
          have h2 := hper.length_eq
          rw [List.length_append] at h2
          exact Nat.lt_of_le_of_lt (show _ ≤ 16 by omega) (by decide)
        have hlen' : (rest.eraseIdx dd.toNat).length = rest.length - 1 := by rw [List.length_eraseIdx, if_pos hdd]
        obtain ⟨HA, eA⟩ : ∃ HA, HA = upd (upd H9 tl (.lst ((strv rest).eraseIdx dd.toNat))) r.1 (.lst (strv r.2 ++ [.str z])) := ⟨_, rfl⟩
        have e1 : (strv rest).eraseIdx dd.toNat = strv (rest.eraseIdx dd.toNat) := map_erase V.str rest dd.toNat
        have hA : ∀ c, c ≠ tl → c ≠ r.1 → HA c = H9 c := fun c h1 h2 => by rw [eA, upd_ne h2, upd_ne h1]
        have hAr : HA r.1 = some (.lst (strv (r.2 ++ [z]))) := by
          rw [eA, upd_same]
          unfold strv
          rw [List.map_append]
          rfl
        have hAt : HA tl = some (.lst (strv (rest.eraseIdx dd.toNat))) := by rw [eA, upd_ne (Ne.symm rtl), upd_same, e1]
        rw [← eA]
        have rp : r.1 ≠ p := nep hP q2
        have lnew : ∀ {c : Addr}, H c = none → l ≠ c := fun {c} hc e => by
          obtain ⟨o, eo⟩ := lH
          rw [e, hc] at eo
          cases eo
        refine ⟨⟨⟨_, rfl⟩, G.set da.toNat (r.1, r.2 ++ [z]), rest.eraseIdx dd.toNat, by rw [List.length_set]; exact hGl, by omega, ?_, ⟨?_, fun x hx => ?_, by rw [fst_set _ eG]; exact R9.nd, hqH, fun x hx => by
          rcases mem_set R9.nd eG hx with rfl | ⟨hx, hxr⟩
          · exact R9.nm r hrm
          · exact R9.nm x hx⟩, fun x hx => ?_, ?_, fun c o hc e => ?_, hAt⟩, ?_⟩
        · refine ((allN_set z eG).append_right _).trans ?_
          rw [List.append_assoc]
          refine List.Perm.trans ?_ hper
          refine List.Perm.append_left _ ?_
          rw [ez]
          exact perm_erase rest dd.toNat hdd
        · rw [refs_set _ eG, hA q (Ne.symm tlq) (Ne.symm q3)]
          exact R9.at_
        · rcases mem_set R9.nd eG hx with rfl | ⟨hx, hxr⟩
          · exact ⟨hAr, q2, q3⟩
          · obtain ⟨x1, x2, x3⟩ := R9.row x hx
            exact ⟨by rw [hA x.1 (htx x hx) hxr]; exact x1, x2, x3⟩
        · rcases mem_set R9.nd eG hx with rfl | ⟨hx, hxr⟩
          · exact rtl
          · exact htx x hx
        · obtain ⟨i', g', w1, w2, w3, w4, w5⟩ := P9
          exact ⟨i', g', by rw [hA p (Ne.symm tlp) (Ne.symm rp)]; exact w1, by rw [hA l (lnew htlH) (lnew q2)]; exact w2, w3, w4, by omega⟩
        · rw [hA c (ne_of_none e htlH) (ne_of_none e q2)]
          exact b09 _ _ hc e
        · show muL tl HA < muL tl H6
          rw [hmu, muL_of hAt]
          have : (strv (rest.eraseIdx dd.toNat)).length = (rest.eraseIdx dd.toNat).length := List.length_map _
          omega
    · rintro σ H' R R' m ⟨x, hx, hs, ff⟩
      refine ⟨x, hx, hs, fun c hc => ?_⟩
      obtain ⟨a, b, xs, h1, h2, h3, h4, kk, e, qq⟩ := ff c hc
      exact ⟨a, b, xs, h1, h2, h3, h4, kk, e, m _ _ qq⟩
end
end Sj
namespace Sj
open PySem L2 Sup StK Own Shw Exg Grd KepE
open NdefX (NF NScope ncx envF startF nscope_by)
open C8 (pss_cut tCut)
/-! k65: _law_cells, _law_sent -/
abbrev sCel : Stmt := top 61
abbrev nCel : List Str := ["_law_bare_here", "_law_rows", "_law_found", "_law_row"]
theorem scCel : FnScope nCel ["_law_bare_here", "_law_rows"] (defScope sCel) := ⟨rfl, rfl, rfl, by decide +kernel, rfl, by decide +kernel, by decide +kernel⟩
/-- rows of the law: lists -/
def RowL (H : Hp) (q : Addr) (G : List (Addr × List Str)) : Prop := H q = some (.lst (refsB G)) ∧ ∀ x ∈ G, H x.1 = some (.lst (strv x.2))
theorem RowL.same {H H' : Hp} {q : Addr} {G : List (Addr × List Str)} (h : RowL H q G) (s : Same H H') : RowL H' q G := ⟨s _ _ h.1, fun x hx => s _ _ (h.2 x hx)⟩
theorem RowsN.l {H H' : Hp} {q : Addr} {G : List (Addr × List Str)} (h : RowsN H H' q G) : RowL H' q G := ⟨h.at_, fun x hx => (h.row x hx).1⟩
def spCel : Sp := fun vs H Q _ => ∃ (b p q : Addr) (d : BareD) (G : List (Addr × List Str)), vs = [.ref b, .ref q] ∧ BareAt H b d p ∧ RowL H q G ∧ G.length ≤ 8 ∧ (allN G).length ≤ 40 ∧ ∀ a H', H a = none → H' a = some (.lst (cellsV d.t G)) → Same H H' → Q (.ref a) H'
section
variable {P : Program} {w : World} {K : PySem.W.Frag} {mg : Str → Option Value} {base : Heap}
theorem ok_cel {f : Addr} {fd : FuncData} (F : Fun K "_law_cells" "_law_cells" sCel f fd) : FnOk P w K mg base CX0 1 f fd ["_law_bare_here", "_law_rows"] spCel := by
  refine F.ok scCel (fun vs H Q E h => ?_) (fun cdv A outer s H vs Q E hr h => ?_)
  · obtain ⟨b, p, q, d, G, rfl, _⟩ := h
    rfl
  · obtain ⟨b, p, q, d, G, rfl, hB, hR, h8, h40, k⟩ := h
    have hu := hu_of hr
    refine ⟨_, pss_cons (ps_set (i := 2) scCel.nd rfl (Or.inl rfl) (pe_lst pa_nil))
      (pss_cons (ps_for PassesOwn.never rfl (pi_list (pv 1)) (pg_name (i := 3) scCel.nd rfl (Or.inl rfl))
        (pss_one (ps_set (i := 2) scCel.nd rfl (Or.inl rfl) (pe_op op_cat (pe_op op_cat (pv 2) (pv 3)) (pe_lst (pa_cons pe_int (pa_cons (pe_dget hu (pv 0) pe_str (fun _ _ => rfl)) pa_nil)))))))
      (pss_one (ps_ret (pv 2)))), ?_⟩
    obtain ⟨dl, ll, rl, hb, _⟩ := hB.ex
    refine ⟨by show 0 ≤ sizeLine; decide, fun a ha => ?_⟩
    have s1 := same_at (o := .lst []) ha
    have hq1 := s1 _ _ hR.1
    have hcl := cells_len d.t G
    refine ⟨_, rfl, q, rfl, ⟨_, SqL.of hq1⟩, for_list (xs := refsB G) (fun i σ H' => (∃ o3, ∃ a', σ = ([some (.ref b), some (.ref q), some (.ref a'), o3] : List (Option V)) ∧ H a' = none ∧ H' a' = some (.lst (cellsV d.t (G.take i)))) ∧ Same H H') ⟨⟨_, a, rfl, ha, upd_same⟩, s1⟩ (fun i σ H' _ h => SqL.of (h.2 _ _ hR.1)) ?_ ?_⟩
    · rintro i x σ H2 hx ⟨⟨o3, a', rfl, ha', hv⟩, s2⟩
      obtain ⟨y, hy, ey, rfl⟩ := refsB_at hx
      have hi : i < G.length := (List.getElem?_eq_some_iff.mp ey).1
      have hyl : (strv y.2).length = y.2.length := List.length_map _
      have hle : (cellsV d.t (G.take i)).length + (y.2.length + 2) ≤ 60 := by
        have q := cells_len d.t (G.take (i + 1))
        rw [cells_snoc ey, List.length_append, List.length_append, hyl] at q
        have q2 := allN_take_le G (i + 1)
        simp only [List.length_cons, List.length_nil, List.length_take] at q
        omega
      refine ⟨_, rfl, _, rfl, a', y.1, _, _, rfl, rfl, hv, s2 _ _ (hR.2 y hy), Nat.le_trans (show _ ≤ 60 by rw [hyl]; omega) (by decide), fun c hc => ?_⟩
      have s3 := same_at (o := .lst (cellsV d.t (G.take i) ++ strv y.2)) hc
      refine ⟨_, rfl, b, _, rfl, DGet.k (k := Sum.inr "top") (s3 _ _ (s2 _ _ hb)), by show 2 ≤ sizeLine; decide, fun e he => ?_⟩
      have s4 := same_at (o := .lst [V.int 0, .int d.t]) he
      refine ⟨c, e, _, _, rfl, rfl, s4 _ _ upd_same, upd_same, Nat.le_trans (show _ ≤ 60 by rw [List.length_append, hyl]; simp only [List.length_cons, List.length_nil]; omega) (by decide), fun g hg => ?_⟩
      refine ⟨⟨_, g, rfl, (s2.trans (s3.trans s4)).free hg, ?_⟩, s2.trans (s3.trans (s4.trans (same_at hg)))⟩
      rw [upd_same, cells_snoc ey, List.append_assoc]
    · rintro σ H2 ⟨⟨o3, a', rfl, ha', hv⟩, s2⟩
      rw [refsB_len, List.take_length] at hv
      exact ⟨_, rfl, k a' H2 ha' hv s2⟩
end
end Sj
namespace Sj
open PySem L2 Sup StK Own Shw Exg Grd KepE
open NdefX (NF NScope ncx envF startF nscope_by)
open C8 (pss_cut tCut)
/-! k67: Hurt(link, name), made or refused -/
abbrev resZ : List Str := ["ground", "power", "nothing"]
abbrev sHuI : Stmt := inClass (top 32) 0
theorem scHuI : FnScope ["self", "link", "name"] ["self", "link", "name"] (defScope sHuI) := ⟨rfl, rfl, rfl, by decide +kernel, rfl, by decide +kernel, by decide +kernel⟩
/-- a value that may be the name of what a link is joined with -/
def NmO (K : PySem.W.Frag) (H : Hp) (x : V) (b : Bool) : Prop := (∃ z : Str, x = .str z ∧ z.length ≤ 1000 ∧ b = (isName z || decide (z ∈ resZ))) ∨ ∃ t : String, TyX K H x (.type t) ∧ kitB t "str" = some false ∧ InS K H resZ x false ∧ b = false
def huF (x y : V) : List (Str × V) := putF "name" y (putF "_link" x [])
structure HuT (P : Program) (w : World) (K : PySem.W.Frag) (mg : Str → Option Value) (base : Heap) (CI fI CC CH : Addr) : Prop where
  betw : ∃ f fd, mg "is_between" = some (.ref f) ∧ PySem.W.keepIn K (.ref f) = true ∧ Binds K fd ["value", "least", "most"] [] ∧ FnOk P w K mg base CX0 2 f fd ["value", "least", "most"] (spBetG K)
  isn : ∃ f fd, mg "is_name" = some (.ref f) ∧ PySem.W.keepIn K (.ref f) = true ∧ Binds K fd ["value"] [] ∧ FnOk P w K mg base CX0 1 f fd ["value"] (spIsName K)
  res : ∃ a, mg "RESERVED" = some (.ref a) ∧ ∀ H, SqT K H a reservedV
  mC : mg "Chain" = some (.ref CC)
  most : ∃ mc u, ClX.CRead K CC mc ∧ ClX.CVal K CC mc "MOST" (.int 8) u
  mI : mg "InvalidHurt" = some (.ref CI)
  ex : ExT P K mg CI "reason"
  iC : PySem.W.findIn K (.ref CI) "__init__" = some (some (.ref fI))
  tI : PySem.W.typeIn K (.ref fI) = some (.type "function")
  inv : ∃ fdI, Binds K fdI ["self", "reason"] [] ∧ FnOk P w K mg base CX0 1 fI fdI ["self", "reason"] (spInv K CI)
  cl : Cls K CH
  nL : NoAttr K CH "_link"
  nN : NoAttr K CH "name"
def spHuI (K : PySem.W.Frag) (CI CH : Addr) : Sp := fun vs H Q E => ∃ (o dx : Addr) (x y : V) (b1 b2 : Bool), vs = [.ref o, x, y] ∧ H o = some (.ins CH dx []) ∧ IntIs K H x 0 8 b1 ∧ NmO K H y b2 ∧
  (b1 = false → ∀ e H', errH H H' e "reason" (.str "link") → E (.ref CI) (some e) H') ∧ (b1 = true → b2 = false → ∀ e H', errH H H' e "reason" (.str "name") → E (.ref CI) (some e) H') ∧
  (b1 = true → b2 = true → ∀ H', H' o = some (.ins CH dx (huF x y)) → But H H' o → Q .non H')
section
variable {P : Program} {w : World} {K : PySem.W.Frag} {mg : Str → Option Value} {base : Heap}
theorem ok_huI {f fI CI CC CH : Addr} {fd : FuncData} (F : Fun K "__init__" "Hurt.__init__" sHuI f fd) (T : HuT P w K mg base CI fI CC CH) : FnOk P w K mg base (L2.CX P w) 3 f fd ["self", "link", "name"] (spHuI K CI CH) := by
  obtain ⟨fB, fdB, mB, kB, bB, GB⟩ := T.betw
  obtain ⟨fN, fdN, mN, kN, bN, GN⟩ := T.isn
  obtain ⟨aR, gR, hR⟩ := T.res
  obtain ⟨mc, u, cr, cv⟩ := T.most
  obtain ⟨fdI, bI, GI⟩ := T.inv
  refine F.okX scHuI (fun vs H Q E h => ?_) (fun cdv A outer s H vs Q E hr h => ?_)
  · obtain ⟨o, dx, x, y, b1, b2, rfl, _⟩ := h
    rfl
  · obtain ⟨o, dx, x, y, b1, b2, rfl, ho, hx, hy, k1, k2, k3⟩ := h
    have hr1 := hr.mono (show 1 ≤ 2 by decide)
    refine ⟨_, pss_cons (ps_if (pt_not (pt_val (pe_call GB hr rfl mB kB bB .nil pass0 (pa_cons (pv 1) (pa_cons pe_int (pa_cons (ClX.pe_cval (pe_glob rfl T.mC (v := .ref CC) rfl)) pa_nil)))))) (pss_one (ps_raise rfl (takes_of rfl rfl rfl rfl) (pmk_oex T.ex.oex T.iC T.tI GI hr bI .nil pass0 rfl T.mI (pa_cons pe_str pa_nil)))) pss_nil)
      (pss_cons (ps_if (PW.pt (pw_and (pt_not (pt_val (pe_call GN hr1 rfl mN kN bN .nil pass0 (pa_cons (pv 2) pa_nil)))) (pw_and1 (pt_cmpR (op_notInS hr.in1.units0) (pv 2) (pe_glob rfl gR (v := .ref aR) rfl) (by rfl))))) (pss_one (ps_raise rfl (takes_of rfl rfl rfl rfl) (pmk_oex T.ex.oex T.iC T.tI GI hr bI .nil pass0 rfl T.mI (pa_cons pe_str pa_nil)))) pss_nil)
      (pss_cons (ps_fld (pv 0) (pv 1) rfl)
      (pss_one (ps_fld (pv 0) (pv 2) rfl)))), ?_⟩
    refine ⟨_, rfl, CC, mc, _, u, rfl, cr, cv, x, 0, 8, b1, rfl, hx, _, rfl, ?_⟩
    cases b1 with
    | false => exact iteT (raise_inv (fun Q' q => q) (by decide +kernel) (Same.refl H) (k1 rfl))
    | true =>
      refine iteF ?_
      have made : ∀ {H' : Hp}, Same H H' → b2 = true → Q .non (upd (upd H' o (.ins CH dx (putF "_link" x []))) o (.ins CH dx (huF x y))) := fun {H'} s e => k3 rfl e _ upd_same fun b' u' hb e' => by
        rw [upd_ne hb, upd_ne hb]
        exact s _ _ e'
      rcases hy with ⟨z, rfl, hz, e2⟩ | ⟨t, ty, kt, hi, e2⟩
      · refine ⟨_, rfl, _, rfl, .inl ⟨z, rfl, hz, fun H1 s1 => ⟨_, rfl, ?_⟩⟩⟩
        cases hn : isName z with
        | true =>
          refine iteF (iteF ?_)
          refine ⟨_, rfl, _, rfl, o, CH, dx, [], rfl, s1 _ _ ho, T.cl, T.nL, by show 0 < 1000; decide, ?_⟩
          refine ⟨_, rfl, _, rfl, o, CH, dx, _, rfl, upd_same, T.cl, T.nN, by show 1 < 1000; decide, ?_⟩
          exact made s1 (by rw [e2, hn]; rfl)
        | false =>
          refine iteT ⟨_, rfl, aR, resZ, _, rfl, hR _, .str z, _, rfl, ?_⟩
          cases hm : decide (z ∈ resZ) with
          | true =>
            refine iteF ?_
            refine ⟨_, rfl, _, rfl, o, CH, dx, [], rfl, s1 _ _ ho, T.cl, T.nL, by show 0 < 1000; decide, ?_⟩
            refine ⟨_, rfl, _, rfl, o, CH, dx, _, rfl, upd_same, T.cl, T.nN, by show 1 < 1000; decide, ?_⟩
            exact made s1 (by rw [e2, hn, hm]; rfl)
          | false => exact iteT (raise_inv (fun Q' q => q) (by decide +kernel) s1 (k2 rfl (by rw [e2, hn, hm]; rfl)))
      · refine ⟨_, rfl, _, rfl, .inr ⟨t, ty, kt, ⟨_, rfl, iteT ⟨_, rfl, aR, resZ, false, rfl, hR _, hi, _, rfl, iteT ?_⟩⟩⟩⟩
        exact raise_inv (fun Q' q => q) (by decide +kernel) (Same.refl H) (k2 rfl e2)
end
end Sj
namespace Sj
open PySem L2 Sup StK Own Shw Exg Grd KepE
/-! k67: a Hurt that was made: its link, its ==, its text -/
/-- a hurt link that was made: the k-th, joined with z -/
def HuAt (H : Hp) (o CH : Addr) (k : Int) (z : Str) : Prop := ∃ dx, H o = some (.ins CH dx (huF (.int k) (.str z))) ∧ 0 ≤ k ∧ k ≤ 8 ∧ z.length ≤ 1000
theorem HuAt.same {H H' : Hp} {o CH : Addr} {k : Int} {z : Str} (h : HuAt H o CH k z) (s : Same H H') : HuAt H' o CH k z := by
  obtain ⟨dx, h1, h2⟩ := h
  exact ⟨dx, s _ _ h1, h2⟩
theorem huF_link (x y : V) : (huF x y).lookup ("_link" : Str) = some x := by
  unfold huF
  rw [lookup_putF, if_neg (by decide +kernel), lookup_putF, if_pos rfl]
theorem huF_name (x y : V) : (huF x y).lookup ("name" : Str) = some y := by
  unfold huF
  rw [lookup_putF, if_pos rfl]
def huStr (k : Int) (z : Str) : Str := ((("" : Str) ++ ("link " : Str) ++ (toString k : Str)) ++ (" " : Str)) ++ z
abbrev sHuL : Stmt := inClass (top 32) 1
abbrev sHuQ : Stmt := inClass (top 32) 2
abbrev sHuS : Stmt := inClass (top 32) 3
def spHuL (CH : Addr) : Sp := fun vs H Q _ => ∃ (o : Addr) (k : Int) (z : Str), vs = [.ref o] ∧ HuAt H o CH k z ∧ Q (.int k) H
def spHuS (CH : Addr) : Sp := fun vs H Q _ => ∃ (o : Addr) (k : Int) (z : Str), vs = [.ref o] ∧ HuAt H o CH k z ∧ Q (.str (huStr k z)) H
def spHuQ (K : PySem.W.Frag) (CH : Addr) : Sp := fun vs H Q _ => ∃ (o : Addr) (k : Int) (z : Str) (y : V), vs = [.ref o, y] ∧ HuAt H o CH k z ∧
  ((∃ (b : Addr) (j : Int) (u : Str), y = .ref b ∧ HuAt H b CH j u ∧ Q (.bl (decide (k = j) && decide (z = u))) H) ∨
   ∃ t, TyX K H y t ∧ PySem.W.kitOne K t (.ref CH) = some false ∧ Q (.bl false) H)
section
variable {P : Program} {w : World} {K : PySem.W.Frag} {mg : Str → Option Value} {base : Heap}
theorem ok_huL {f CH : Addr} {fd : FuncData} (F : Fun K "link" "Hurt.link" sHuL f fd) (cl : Cls K CH) (nL : NoAttr K CH "_link") : FnOk P w K mg base CX0 1 f fd ["self"] (spHuL CH) := by
  have sc : FnScope ["self"] ["self"] (defScope sHuL) := ⟨rfl, rfl, rfl, by decide +kernel, rfl, by decide +kernel, by decide +kernel⟩
  refine F.ok sc (fun vs H Q E h => ?_) (fun cdv A outer s H vs Q E hr h => ?_)
  · obtain ⟨o, k, z, rfl, _⟩ := h
    rfl
  · obtain ⟨o, k, z, rfl, ⟨dx, h1, _⟩, q⟩ := h
    exact ⟨_, pss_one (ps_ret (pe_fld (pv 0) rfl)), _, rfl, o, CH, dx, _, _, rfl, h1, cl, nL, huF_link _ _, q⟩
theorem ok_huS {f CH : Addr} {fd : FuncData} (F : Fun K "__str__" "Hurt.__str__" sHuS f fd) (cl : Cls K CH) (nL : NoAttr K CH "_link") (nN : NoAttr K CH "name") : FnOk P w K mg base CX0 1 f fd ["self"] (spHuS CH) := by
  have sc : FnScope ["self"] ["self"] (defScope sHuS) := ⟨rfl, rfl, rfl, by decide +kernel, rfl, by decide +kernel, by decide +kernel⟩
  refine F.ok sc (fun vs H Q E h => ?_) (fun cdv A outer s H vs Q E hr h => ?_)
  · obtain ⟨o, k, z, rfl, _⟩ := h
    rfl
  · obtain ⟨o, k, z, rfl, ⟨dx, h1, k0, k8, hz⟩, q⟩ := h
    refine ⟨_, pss_one (ps_ret (pe_joined (.cons pe_str (.cons (pe_fmt (pe_fld (pv 0) rfl)) (.cons pe_str (.cons (pe_fmt (pe_fld (pv 0) rfl)) .nil)))))), ?_⟩
    have hk : k.natAbs.log2 < 1920 := Nat.lt_of_le_of_lt (Nat.log2_le_self _) (by omega)
    have lk : (toString k : Str).length ≤ 1 := by
      obtain rfl | rfl | rfl | rfl | rfl | rfl | rfl | rfl | rfl : k = 0 ∨ k = 1 ∨ k = 2 ∨ k = 3 ∨ k = 4 ∨ k = 5 ∨ k = 6 ∨ k = 7 ∨ k = 8 := by omega
      all_goals decide +kernel
    have e5 : ((Str.empty ++ ("link " : Str)) : Str).length ≤ 5 := by decide +kernel
    have e6 : ((Str.empty ++ ("link " : Str)) ++ (toString k : Str)).length ≤ 6 := by
      rw [strLen]
      exact Nat.add_le_add e5 lk
    have e7 : (((Str.empty ++ ("link " : Str)) ++ (toString k : Str)) ++ (" " : Str)).length ≤ 7 := by
      rw [strLen]
      exact Nat.add_le_add_right e6 1
    have e8 : ((((Str.empty ++ ("link " : Str)) ++ (toString k : Str)) ++ (" " : Str)) ++ z).length ≤ 1007 := by
      rw [strLen]
      exact Nat.add_le_add e7 hz
    refine ⟨_, rfl, Nat.le_trans e5 (by decide), _, rfl, o, CH, dx, _, _, rfl, h1, cl, nL, huF_link _ _, .inr ⟨k, rfl, hk, _, rfl, Nat.le_trans e6 (by decide), _, rfl, Nat.le_trans e7 (by decide), _, rfl, o, CH, dx, _, _, rfl, h1, cl, nN, huF_name _ _, .inl ⟨z, rfl, Nat.le_trans hz (by decide), _, rfl, Nat.le_trans e8 (by decide), ?_⟩⟩⟩
    exact q
theorem ok_huQ {f CH : Addr} {fd : FuncData} (F : Fun K "__eq__" "Hurt.__eq__" sHuQ f fd) (isi : mg "isinstance" = none) (mH : mg "Hurt" = some (.ref CH)) (ic : IsiC K CH) (self : PySem.W.kitOne K (.ref CH) (.ref CH) = some true) (nL : NoAttr K CH "_link") (nN : NoAttr K CH "name") : FnOk P w K mg base CX0 1 f fd ["self", "other"] (spHuQ K CH) := by
  have sc : FnScope ["self", "other"] ["self", "other"] (defScope sHuQ) := ⟨rfl, rfl, rfl, by decide +kernel, rfl, by decide +kernel, by decide +kernel⟩
  refine F.ok sc (fun vs H Q E h => ?_) (fun cdv A outer s H vs Q E hr h => ?_)
  · obtain ⟨o, k, z, y, rfl, _⟩ := h
    rfl
  · obtain ⟨o, k, z, y, rfl, ⟨dx, h1, k0, k8, hz⟩, h⟩ := h
    refine ⟨_, pss_one (ps_ret (pe_and (pe_callB call_isi (by rfl) isi (by decide +kernel) (pa_cons (pv 1) (pa_cons (pe_glob rfl mH (v := .ref CH) rfl) pa_nil)))
      (pe_and (pe_cmpR op_eq (pe_fld (pv 0) rfl) (pe_fld (pv 1) rfl) (nomark _)) (pe_one (pe_cmpR op_eq (pe_fld (pv 0) rfl) (pe_fld (pv 1) rfl) (nomark _)))))), ?_⟩
    rcases h with ⟨b, j, u, rfl, ⟨dx', g1, j0, j8, hu⟩, q⟩ | ⟨t, ty, hk, q⟩
    · have tyb : TyX K H (.ref b) (.ref CH) := .base (.ins g1 ic.cl ic.ca ic.cn ic.ct ic.cm)
      refine ⟨_, rfl, _, _, .ref CH, .ref CH, true, rfl, .own _, tyb, self, _, rfl, iteT ?_⟩
      refine ⟨_, rfl, o, CH, dx, _, _, rfl, h1, ic.cl, nL, huF_link _ _, _, rfl, b, CH, dx', _, _, rfl, g1, ic.cl, nL, huF_link _ _, rfl, ?_⟩
      have ek : decide (V.int k = V.int j) = decide (k = j) := decide_eq_decide.mpr ⟨fun h => V.int.inj h, fun h => congrArg V.int h⟩
      refine ⟨_, rfl, ?_⟩
      rw [ek]
      cases e : decide (k = j) with
      | false =>
        refine iteF ?_
        rw [e, Bool.false_and] at q
        exact q
      | true =>
        refine iteT ⟨_, rfl, o, CH, dx, _, _, rfl, h1, ic.cl, nN, huF_name _ _, _, rfl, b, CH, dx', _, _, rfl, g1, ic.cl, nN, huF_name _ _, rfl, ?_⟩
        rw [e, Bool.true_and] at q
        have ez : decide (V.str z = V.str u) = decide (z = u) := decide_eq_decide.mpr ⟨fun h => V.str.inj h, fun h => congrArg V.str h⟩
        rw [← ez] at q
        exact q
    · exact ⟨_, rfl, _, _, t, .ref CH, false, rfl, .own _, ty, hk, _, rfl, iteF q⟩
end
end Sj
namespace Sj
open PySem L2 Sup StK Own Shw Exg Grd KepE
open NdefX (NF NScope ncx envF startF nscope_by)
open C8 (pss_cut tCut)
/-! k67: is_member; check_hurt -/
abbrev sIsM : Stmt := top 24
theorem scIsM : FnScope ["frame", "value"] ["frame", "value"] (defScope sIsM) := ⟨rfl, rfl, rfl, by decide +kernel, rfl, by decide +kernel, by decide +kernel⟩
/-- the names of all elements -/
def membZ (d : FrD) : List Str := names d.ys ++ railsZ d.g d.r
def spIsM (K : PySem.W.Frag) (ks : Kinds) (CF : Addr) : Sp := fun vs H Q _ => ∃ a d x, vs = [.ref a, x] ∧ FrIs ks CF H a d ∧ ((∃ z : Str, x = .str z ∧ ∀ H', Same H H' → Q (.bl (decide (z ∈ membZ d))) H') ∨ (NotLeg K H x d ∧ InS K H (railsZ d.g d.r) x false ∧ ∀ H', Same H H' → Q (.bl false) H'))
structure ImT (P : Program) (w : World) (K : PySem.W.Frag) (mg : Str → Option Value) (base : Heap) (ks : Kinds) (CF : Addr) : Prop where
  in_ : MetN P w K mg base CX0 1 CF "__contains__" ["self", "x"] (spFIs K ks CF)
  rails : PropN P w K mg base 1 CF "rails" (spTup ks CF fun d => railsZ d.g d.r)
section
variable {P : Program} {w : World} {K : PySem.W.Frag} {mg : Str → Option Value} {base : Heap}
theorem ok_ism {f CF : Addr} {fd : FuncData} {ks : Kinds} (F : Fun K "is_member" "is_member" sIsM f fd) (T : ImT P w K mg base ks CF) : FnOk P w K mg base CX0 3 f fd ["frame", "value"] (spIsM K ks CF) := by
  refine F.ok scIsM (fun vs H Q E h => ?_) (fun cdv A outer s H vs Q E hr h => ?_)
  · obtain ⟨a, d, x, rfl, _⟩ := h
    rfl
  · obtain ⟨a, d, x, rfl, hF, h⟩ := h
    obtain ⟨dx, fs, ea⟩ := hF.ins
    refine ⟨_, pss_one (ps_ret (pe_or (pe_cmpR (op_inN T.in_ (hr.mono (by decide))) (pv 1) (pv 0) (by rfl)) (pe_one (pe_cmpR (op_inS hr.in1.units0) (pv 1) (pe_propS (S := fun C => C = CF) (spP := fun _ => spTup ks CF fun d => railsZ d.g d.r) (pv 0) (fun C e => by rw [e]; exact T.rails) hr) (by rfl))))), ?_⟩
    rcases h with ⟨z, rfl, k⟩ | ⟨hn, hi, k⟩
    · by_cases hz : z ∈ names d.ys
      · refine ⟨_, rfl, _, rfl, a, dx, fs, rfl, ea, a, d, _, rfl, hF, .inl ⟨z, rfl, hz, true, rfl, _, rfl, iteT ?_⟩⟩
        have := k H (Same.refl H)
        rw [decide_eq_true (show z ∈ membZ d from List.mem_append_left _ hz)] at this
        exact this
      · refine ⟨_, rfl, _, rfl, a, dx, fs, rfl, ea, a, d, _, rfl, hF, .inr ⟨.inl ⟨z, rfl, hz⟩, false, rfl, _, rfl, iteF ?_⟩⟩
        refine ⟨_, rfl, _, rfl, a, CF, dx, fs, rfl, ea, rfl, a, d, rfl, hF, fun p H1 hp hv s1 => ⟨p, railsZ d.g d.r, _, rfl, SqT.of hv, .str z, ?_⟩⟩
        have := k H1 s1
        have e : decide (z ∈ membZ d) = decide (z ∈ railsZ d.g d.r) := by
          refine decide_eq_decide.mpr ⟨fun m => (List.mem_append.mp m).resolve_left hz, fun m => List.mem_append_right _ m⟩
        rw [e] at this
        exact this
    · refine ⟨_, rfl, _, rfl, a, dx, fs, rfl, ea, a, d, _, rfl, hF, .inr ⟨hn, false, rfl, _, rfl, iteF ?_⟩⟩
      exact ⟨_, rfl, _, rfl, a, CF, dx, fs, rfl, ea, rfl, a, d, rfl, hF, fun p H1 hp hv s1 => ⟨p, railsZ d.g d.r, _, rfl, SqT.of hv, inS_same hi s1, k H1 s1⟩⟩
end
abbrev sCkH : Stmt := top 44
structure CkHT (P : Program) (w : World) (K : PySem.W.Frag) (mg : Str → Option Value) (base : Heap) (ks : Kinds) (CF CC CI fI CH : Addr) : Prop where
  m : ChM K mg CF CC
  link : PropN P w K mg base 1 CH "link" (spHuL CH)
  len_ : MetN P w K mg base CX0 1 CC "__len__" ["self"] (spChL ks CF CC)
  ism : ∃ f fd, mg "is_member" = some (.ref f) ∧ PySem.W.keepIn K (.ref f) = true ∧ Binds K fd ["frame", "value"] [] ∧ FnOk P w K mg base CX0 3 f fd ["frame", "value"] (spIsM K ks CF)
  mI : mg "InvalidHurt" = some (.ref CI)
  ex : ExT P K mg CI "reason"
  iC : PySem.W.findIn K (.ref CI) "__init__" = some (some (.ref fI))
  tI : PySem.W.typeIn K (.ref fI) = some (.type "function")
  inv : ∃ fdI, Binds K fdI ["self", "reason"] [] ∧ FnOk P w K mg base CX0 1 fI fdI ["self", "reason"] (spInv K CI)
  cl : Cls K CH
  nN : NoAttr K CH "name"
/-- the hurt link belongs to the chain -/
def huNm (d : FrD) (z : Str) : Bool := decide (z = "nothing") || decide (z ∈ membZ d)
def spCkH (ks : Kinds) (CF CC CI CH : Addr) : Sp := fun vs H Q E => ∃ (o f h : Addr) (d : FrD) (L : List (Addr × List Str)) (k : Int) (z : Str), vs = [.ref o, .ref h] ∧ ChIs ks CF CC H o f d L ∧ HuAt H h CH k z ∧
  ((L.length : Int) < k → ∀ e H', errH H H' e "reason" (.str "link") → E (.ref CI) (some e) H') ∧ (¬ (L.length : Int) < k → huNm d z = false → ∀ e H', errH H H' e "reason" (.str "name") → E (.ref CI) (some e) H') ∧
  (¬ (L.length : Int) < k → huNm d z = true → ∀ H', Same H H' → Q .non H')
section
variable {P : Program} {w : World} {K : PySem.W.Frag} {mg : Str → Option Value} {base : Heap}
theorem ok_ckh {f CF CC CI fI CH : Addr} {fd : FuncData} {ks : Kinds} (F : Fun K "check_hurt" "check_hurt" sCkH f fd) (T : CkHT P w K mg base ks CF CC CI fI CH) : FnOk P w K mg base (L2.CX P w) 4 f fd ["chain", "hurt"] (spCkH ks CF CC CI CH) := by
  have sc : FnScope ["chain", "hurt"] ["chain", "hurt"] (defScope sCkH) := ⟨rfl, rfl, rfl, by decide +kernel, rfl, by decide +kernel, by decide +kernel⟩
  obtain ⟨fM, fdM, mM, kM, bM, GM⟩ := T.ism
  obtain ⟨fdI, bI, GI⟩ := T.inv
  refine F.okX sc (fun vs H Q E h => ?_) (fun cdv A outer s H vs Q E hr h => ?_)
  · obtain ⟨o, fr, hh, d, L, k, z, rfl, _⟩ := h
    rfl
  · obtain ⟨o, fr, hh, d, L, k, z, rfl, hC, ⟨dx, h1, k0, k8, hz⟩, k1, k2, k3⟩ := h
    have hr2 := hr.mono (show 2 ≤ 3 by decide)
    refine ⟨_, pss_cons (ps_if (pt_cmpR op_gt (pe_propS (S := fun C => C = CH) (spP := fun _ => spHuL CH) (pv 1) (fun C e => by rw [e]; exact T.link) hr2) (pe_callB (call_lenN T.len_ hr2) (by rfl) T.m.len PySem.boot_len (pa_cons (pv 0) pa_nil)) (nomark _)) (pss_one (ps_raise rfl (takes_of rfl rfl rfl rfl) (pmk_oex T.ex.oex T.iC T.tI GI hr2 bI .nil pass0 rfl T.mI (pa_cons pe_str pa_nil)))) pss_nil)
      (pss_one (ps_if (PW.pt (pw_and (pt_cmpR op_ne (pe_fld (pv 1) rfl) pe_str (nomark _)) (pw_and1 (pt_not (pt_val (pe_call GM hr rfl mM kM bM .nil pass0 (pa_cons (pe_fld (pv 0) rfl) (pa_cons (pe_fld (pv 1) rfl) pa_nil)))))))) (pss_one (ps_raise rfl (takes_of rfl rfl rfl rfl) (pmk_oex T.ex.oex T.iC T.tI GI hr2 bI .nil pass0 rfl T.mI (pa_cons pe_str pa_nil)))) pss_nil)), ?_⟩
    obtain ⟨dc, B, c1, _, _⟩ := hC.at_
    have hL : L.length < 2 ^ 62 := Nat.lt_of_le_of_lt hC.p.l8 (by decide)
    refine ⟨_, rfl, hh, CH, dx, _, rfl, h1, rfl, hh, k, z, rfl, ⟨dx, h1, k0, k8, hz⟩, _, rfl, o, dc, _, rfl, c1, o, fr, d, L, rfl, hC, L.length, rfl, hL, k, L.length, rfl, rfl, ?_⟩
    refine ⟨_, rfl, ?_⟩
    by_cases e1 : (L.length : Int) < k
    · rw [decide_eq_true e1]
      exact iteT (raise_inv (fun Q' q => q) (by decide +kernel) (Same.refl H) (k1 e1))
    · rw [decide_eq_false e1]
      refine iteF ?_
      refine ⟨_, rfl, hh, CH, dx, _, _, rfl, h1, T.cl, T.nN, huF_name _ _, rfl, _, rfl, ?_⟩
      have ez : decide (V.str z = V.str ("nothing" : Str)) = decide (z = "nothing") := decide_eq_decide.mpr ⟨fun h => V.str.inj h, fun h => congrArg V.str h⟩
      rw [ez]
      cases en : decide (z = "nothing") with
      | true =>
        refine iteF ?_
        exact k3 e1 (by unfold huNm; rw [en, Bool.true_or]) H (Same.refl H)
      | false =>
        refine iteT ?_
        refine ⟨_, rfl, o, CC, dc, _, _, rfl, c1, T.m.cl, T.m.nF, chF_frame _ _, _, rfl, hh, CH, dx, _, _, rfl, h1, T.cl, T.nN, huF_name _ _, ?_⟩
        refine ⟨fr, d, .str z, rfl, hC.fr, .inl ⟨z, rfl, fun H1 s1 => ?_⟩⟩
        have em : huNm d z = decide (z ∈ membZ d) := by unfold huNm; rw [en, Bool.false_or]
        refine ⟨_, rfl, ?_⟩
        cases e2 : decide (z ∈ membZ d) with
        | true => exact iteF (k3 e1 (by rw [em, e2]) H1 s1)
        | false => exact iteT (raise_inv (fun Q' q => q) (by decide +kernel) s1 (k2 e1 (by rw [em, e2])))
end
end Sj
namespace Sj
open PySem L2 Sup StK Own Shw Exg Grd KepE
/-! k67: Bench(chain, board, hurt), made or refused -/
abbrev sBeI : Stmt := inClass (top 43) 0
/-- the board's frame -/
def BdAt (H : Hp) (b CB g : Addr) : Prop := ∃ dx fs, H b = some (.ins CB dx fs) ∧ fs.lookup ("frame" : Str) = some (V.ref g)
structure BeT (P : Program) (w : World) (K : PySem.W.Frag) (mg : Str → Option Value) (base : Heap) (ks : Kinds) (CF CC CW CB CE CI CJ fJ CH : Addr) : Prop where
  m : ChM K mg CF CC
  eqF : EqN P w K mg base 4 CF (spFEq K ks CF)
  icF : IsiC K CF
  nf : PySem.W.notFirst K CF (.ref CF) = true
  ck : ∃ f fd, mg "check_hurt" = some (.ref f) ∧ PySem.W.keepIn K (.ref f) = true ∧ Binds K fd ["chain", "hurt"] [] ∧ FnOk P w K mg base (L2.CX P w) 4 f fd ["chain", "hurt"] (spCkH ks CF CC CI CH)
  mJ : mg "InvalidBoard" = some (.ref CJ)
  ex : ExT P K mg CJ "reason"
  iC : PySem.W.findIn K (.ref CJ) "__init__" = some (some (.ref fJ))
  tI : PySem.W.typeIn K (.ref fJ) = some (.type "function")
  inv : ∃ fdI, Binds K fdI ["self", "reason"] [] ∧ FnOk P w K mg base CX0 1 fJ fdI ["self", "reason"] (spInv K CJ)
  mW : mg "Word" = some (.ref CW)
  cW : ∃ mc p g, ClX.CRead K CW mc ∧ ClX.CMet K CW mc "rest" p g ∧ FnK P w K mg base CX0 8 g [] (fun vs zs H Q E => vs.length = 2 ∧ spWRest ks CF CW vs H Q E)
  rs : ∃ a, mg "RESET" = some (.ref a)
  cB : Cls K CB
  nF : NoAttr K CB "frame"
  cE : Cls K CE
  n1 : NoAttr K CE "_chain"
  n2 : NoAttr K CE "_board"
  n3 : NoAttr K CE "_hurt"
  n4 : NoAttr K CE "_state"
/-- what is passed as the hurt link -/
inductive HuV (H : Hp) (CH : Addr) (d : FrD) (n : Nat) : V → Option Str → Prop where
  | non : HuV H CH d n .non none
  | link (h : Addr) (k : Int) (z : Str) (e : HuAt H h CH k z) (lt : (n : Int) < k) : HuV H CH d n (.ref h) (some "link")
  | name (h : Addr) (k : Int) (z : Str) (e : HuAt H h CH k z) (lt : ¬ (n : Int) < k) (nm : huNm d z = false) : HuV H CH d n (.ref h) (some "name")
  | ok (h : Addr) (k : Int) (z : Str) (e : HuAt H h CH k z) (lt : ¬ (n : Int) < k) (nm : huNm d z = true) : HuV H CH d n (.ref h) none
def spBeI (ks : Kinds) (CF CC CB CE CI CJ CH : Addr) : Sp := fun vs H Q E => ∃ (o dx c b f g : Addr) (hv : V) (d e : FrD) (L : List (Addr × List Str)) (r : Option Str), vs = [.ref o, .ref c, .ref b, hv] ∧ H o = some (.ins CE dx []) ∧ ChIs ks CF CC H c f d L ∧ 1 ≤ d.t ∧ d.t ≤ 3 ∧ BdAt H b CB g ∧ FrIs ks CF H g e ∧ HuV H CH d L.length hv r ∧
  (eqFr e d = false → ∀ x H', errH H H' x "reason" (.str "frame") → E (.ref CJ) (some x) H') ∧ (eqFr e d = true → ∀ z, r = some z → ∀ x H', errH H H' x "reason" (.str z) → E (.ref CI) (some x) H') ∧
  (eqFr e d = true → r = none → ∀ H' fs, H' o = some (.ins CE dx fs) → But H H' o → Q .non H')
theorem errH_of {H H2 H' : Hp} {x : Addr} {f : Str} {v : V} (h : errH H2 H' x f v) (s : Same H H2) : errH H H' x f v := by
  obtain ⟨h1, h2, h3⟩ := h
  refine ⟨?_, h2, s.trans h3⟩
  cases e : H x with
  | none => rfl
  | some u => rw [s _ _ e] at h1; cases h1
section
variable {P : Program} {w : World} {K : PySem.W.Frag} {mg : Str → Option Value} {base : Heap}
theorem ok_beI {f CF CC CW CB CE CI CJ fJ CH : Addr} {fd : FuncData} {ks : Kinds} (F : FunD K "__init__" "Bench.__init__" (defArgs sBeI) (defBody sBeI) (defScope sBeI) [.non] [] f fd) (T : BeT P w K mg base ks CF CC CW CB CE CI CJ fJ CH) : FnOk P w K mg base (L2.CX P w) 9 f fd ["self", "chain", "board", "hurt"] (spBeI ks CF CC CB CE CI CJ CH) := by
  have sc : FnScope ["self", "chain", "board", "hurt"] ["self", "chain", "board", "hurt"] (defScope sBeI) := ⟨rfl, rfl, rfl, by decide +kernel, rfl, by decide +kernel, by decide +kernel⟩
  obtain ⟨fM, fdM, mM, kM, bM, GM⟩ := T.ck
  obtain ⟨fdI, bI, GI⟩ := T.inv
  obtain ⟨mc, pW, gW, cr, cm, GW⟩ := T.cW
  obtain ⟨aR, mR⟩ := T.rs
  refine F.ok (CX := L2.CX P w) sc (fun vs H Q E h => ?_) (fun cdv A outer s H vs Q E hr h => ?_)
  · obtain ⟨o, dx, c, b, fr, g, hv, d, e, L, r, rfl, _⟩ := h
    rfl
  · obtain ⟨o, dx, c, b, fr, g, hv, d, e, L, r, rfl, ho, hC, t1, t3, ⟨bx, fs, b1, b2⟩, hG, hH, k1, k2, k3⟩ := h
    have hr2 := hr.mono (show 2 ≤ 8 by decide)
    refine ⟨_, pss_cons (ps_if (pt_cmpR (op_ownE (.inr rfl) (S := fun C => C = CF) (spE := fun _ => spFEq K ks CF) (fun C e => by rw [e]; exact T.eqF.eqC (hr.mono (by decide)))) (pe_fld (pv 2) rfl) (pe_fld (pv 1) rfl) (nomark _)) (pss_one (ps_raise rfl (takes_of rfl rfl rfl rfl) (pmk_oex T.ex.oex T.iC T.tI GI hr2 bI .nil pass0 rfl T.mJ (pa_cons pe_str pa_nil)))) pss_nil)
      (pss_cons (ps_if (pt_cmpR op_notN (pv 3) pe_non (nomark _)) (pss_one (ps_expr (pe_call GM (hr.mono (by decide)) rfl mM kM bM .nil (passes_call (takes_of rfl rfl rfl rfl) fun _ _ _ _ h => h) (pa_cons (pv 1) (pa_cons (pv 3) pa_nil))))) pss_nil)
      (pss_cons (ps_fld (pv 0) (pv 1) rfl)
      (pss_cons (ps_fld (pv 0) (pv 2) rfl)
      (pss_cons (ps_fld (pv 0) (pv 3) rfl)
      (pss_one (ps_fld (pv 0) (pe_tup (pa_cons (pe_cmethK (pe_glob rfl T.mW (v := .ref CW) rfl) cr cm GW hr pass0 (pa_cons (pe_fld (pv 1) rfl) pa_nil) pk_nil) (pa_cons (pe_tup (pa_cons (pe_glob rfl mR (v := .ref aR) rfl) pa_nil)) pa_nil))) rfl)))))), ?_⟩
    obtain ⟨dc, B, c1, c2, c3⟩ := hC.at_
    obtain ⟨gx, gs, eg⟩ := hG.ins
    obtain ⟨fx, fs', ef⟩ := hC.fr.ins
    refine ⟨_, rfl, b, CB, bx, fs, _, rfl, b1, T.cB, T.nF, b2, _, rfl, c, CC, dc, _, _, rfl, c1, T.m.cl, T.m.nF, chF_frame _ _, ?_⟩
    refine ⟨g, CF, gx, gs, rfl, eg, rfl, .inl ⟨.ref CF, .base (.ins ef T.icF.cl T.icF.ca T.icF.cn T.icF.ct T.icF.cm), T.nf, g, e, .ref fr, rfl, hG, .inl ⟨fr, d, rfl, hC.fr, fun H2 s2 => ⟨_, rfl, _, rfl, ?_⟩⟩⟩⟩
    cases eE : eqFr e d with
    | false => exact iteT (raise_inv (fun Q' q => q) (by decide +kernel) s2 (k1 eE))
    | true =>
      refine iteF ?_
      refine ⟨_, rfl, rfl, _, rfl, ?_⟩
      cases hH with
      | link h k z e' lt =>
        refine iteT ⟨_, rfl, _, rfl, c, fr, h, d, L, k, z, rfl, hC.same s2, e'.same s2, fun _ x H' q => k2 eE _ rfl x H' (errH_of q s2), fun q => absurd lt q, fun q => absurd lt q⟩
      | name h k z e' lt nm =>
        refine iteT ⟨_, rfl, _, rfl, c, fr, h, d, L, k, z, rfl, hC.same s2, e'.same s2, fun q => absurd q lt, fun _ _ x H' q => k2 eE _ rfl x H' (errH_of q s2), fun _ q => ?_⟩
        rw [nm] at q
        cases q
      | non =>
        refine iteF ?_
        refine ⟨_, rfl, _, rfl, o, CE, dx, [], rfl, s2 _ _ ho, T.cE, T.n1, by show 0 < 1000; decide, ?_⟩
        obtain ⟨H3, e3⟩ : ∃ H3, H3 = upd H2 o (.ins CE dx (putF "_chain" (.ref c) [])) := ⟨_, rfl⟩
        rw [← e3]
        refine ⟨_, rfl, _, rfl, o, CE, dx, _, rfl, (by rw [e3]; exact upd_same), T.cE, T.n2, by show 1 < 1000; decide, ?_⟩
        obtain ⟨H4, e4⟩ : ∃ H4, H4 = upd H3 o (.ins CE dx (putF "_board" (.ref b) (putF "_chain" (.ref c) []))) := ⟨_, rfl⟩
        rw [← e4]
        refine ⟨_, rfl, _, rfl, o, CE, dx, _, rfl, (by rw [e4]; exact upd_same), T.cE, T.n3, by show 2 < 1000; decide, ?_⟩
        obtain ⟨H5, e5⟩ : ∃ H5, H5 = upd H4 o (.ins CE dx (putF "_hurt" .non (putF "_board" (.ref b) (putF "_chain" (.ref c) [])))) := ⟨_, rfl⟩
        rw [← e5]
        have o5 : H5 o = some (.ins CE dx (putF "_hurt" .non (putF "_board" (.ref b) (putF "_chain" (.ref c) [])))) := by rw [e5]; exact upd_same
        have b5 : But H H5 o := fun x u hx q => by rw [e5, upd_ne hx, e4, upd_ne hx, e3, upd_ne hx]; exact s2 _ _ q
        have c5 := b5 _ _ (fun q => by rw [q, ho] at c1; cases c1) c1
        have f5 := hC.fr.butC ho b5
        refine ⟨rfl, _, rfl, c, CC, dc, _, _, rfl, c5, T.m.cl, T.m.nF, chF_frame _ _, rfl, rfl, fr, d, rfl, f5, t1, t3, fun a H6 hn wd s6 => ?_⟩
        refine ⟨by show 1 ≤ sizeLine; decide, fun p hp => ⟨by show 2 ≤ sizeLine; decide, fun q hq => ?_⟩⟩
        have s7 := s6.trans ((same_at (o := .tup [V.ref aR]) hp).trans (same_at (o := .tup [.ref a, .ref p]) hq))
        refine ⟨_, rfl, o, CE, dx, _, rfl, s7 _ _ o5, T.cE, T.n4, by show 3 < 1000; decide, k3 eE rfl _ _ upd_same fun x u hx q => ?_⟩
        rw [upd_ne hx]
        exact s7 _ _ (b5 _ _ hx q)
      | ok h k z e' lt nm =>
        refine iteT ⟨_, rfl, _, rfl, c, fr, h, d, L, k, z, rfl, hC.same s2, e'.same s2, fun q => absurd q lt, fun _ q => (by rw [nm] at q; cases q), fun _ _ H8 s8' => ?_⟩
        have s8 := s2.trans s8'
        refine ⟨_, rfl, _, rfl, o, CE, dx, [], rfl, s8 _ _ ho, T.cE, T.n1, by show 0 < 1000; decide, ?_⟩
        obtain ⟨H3, e3⟩ : ∃ H3, H3 = upd H8 o (.ins CE dx (putF "_chain" (.ref c) [])) := ⟨_, rfl⟩
        rw [← e3]
        refine ⟨_, rfl, _, rfl, o, CE, dx, _, rfl, (by rw [e3]; exact upd_same), T.cE, T.n2, by show 1 < 1000; decide, ?_⟩
        obtain ⟨H4, e4⟩ : ∃ H4, H4 = upd H3 o (.ins CE dx (putF "_board" (.ref b) (putF "_chain" (.ref c) []))) := ⟨_, rfl⟩
        rw [← e4]
        refine ⟨_, rfl, _, rfl, o, CE, dx, _, rfl, (by rw [e4]; exact upd_same), T.cE, T.n3, by show 2 < 1000; decide, ?_⟩
        obtain ⟨H5, e5⟩ : ∃ H5, H5 = upd H4 o (.ins CE dx (putF "_hurt" (.ref h) (putF "_board" (.ref b) (putF "_chain" (.ref c) [])))) := ⟨_, rfl⟩
        rw [← e5]
        have o5 : H5 o = some (.ins CE dx (putF "_hurt" (.ref h) (putF "_board" (.ref b) (putF "_chain" (.ref c) [])))) := by rw [e5]; exact upd_same
        have b5 : But H H5 o := fun x u hx q => by rw [e5, upd_ne hx, e4, upd_ne hx, e3, upd_ne hx]; exact s8 _ _ q
        have c5 := b5 _ _ (fun q => by rw [q, ho] at c1; cases c1) c1
        have f5 := hC.fr.butC ho b5
        refine ⟨rfl, _, rfl, c, CC, dc, _, _, rfl, c5, T.m.cl, T.m.nF, chF_frame _ _, rfl, rfl, fr, d, rfl, f5, t1, t3, fun a H6 hn wd s6 => ?_⟩
        refine ⟨by show 1 ≤ sizeLine; decide, fun p hp => ⟨by show 2 ≤ sizeLine; decide, fun q hq => ?_⟩⟩
        have s7 := s6.trans ((same_at (o := .tup [V.ref aR]) hp).trans (same_at (o := .tup [.ref a, .ref p]) hq))
        refine ⟨_, rfl, o, CE, dx, _, rfl, s7 _ _ o5, T.cE, T.n4, by show 3 < 1000; decide, k3 eE rfl _ _ upd_same fun x u hx q => ?_⟩
        rw [upd_ne hx]
        exact s7 _ _ (b5 _ _ hx q)
end
end Sj
/-! zip of two things, each a list (kind true) or a tuple (kind false) -/
namespace Zm
open PySem PySem.Spec PyProof.Rows L2
open PySem.Sem (wp)
/-- what walks it -/
def ItK : Bool → Heap → Addr → Addr → Nat → Prop
  | true, h, it, l, i => h.IsListIter it l i
  | false, h, it, l, i => h.IsTupleIter it l i
def SqK : Bool → Heap → Addr → Array Value → Prop
  | true, h, l, xs => h.IsList l xs
  | false, h, l, xs => h.IsTuple l xs
def nmK : Bool → String
  | true => "list_iterator"
  | false => "tuple_iterator"
abbrev obK (k : Bool) (l : Addr) : Obj := { cls := .type (nmK k), data := .fields #[.ref l, .int 0 0] }
theorem ItK.eb {k : Bool} {h h' : Heap} {a b l : Addr} {i : Nat} (x : ItK k h a l i) (s : Heap.ExtBut b h h') (n : a ≠ b) : ItK k h' a l i := by
  cases k
  · exact Heap.IsTupleIter.extBut x s n
  · exact Heap.IsListIter.extBut x s n
theorem ItK.on {k : Bool} {h h' : Heap} {a l : Addr} {i : Nat} (x : ItK k h a l i) (e : ∀ o, h.get? a = some o → h'.get? a = some o) : ItK k h' a l i := by
  cases k
  · exact Heap.IsTupleIter.at x e
  · exact Heap.IsListIter.at x e
theorem ItK.ob {k : Bool} {h : Heap} {a l : Addr} {i : Nat} (x : ItK k h a l i) : ∃ o, h.get? a = some o ∧ ∀ v, o.data ≠ .cell v := by
  cases k
  · obtain ⟨o, e, _, d⟩ := x
    exact ⟨o, e, fun v q => by rw [d] at q; cases q⟩
  · obtain ⟨o, e, _, d⟩ := x
    exact ⟨o, e, fun v q => by rw [d] at q; cases q⟩
theorem ItK.lt {k : Bool} {h : Heap} {a l : Addr} {i : Nat} (x : ItK k h a l i) : a < h.objs.size := by
  obtain ⟨o, e, _⟩ := x.ob
  exact Heap.lt_size e
theorem ItK.new {k : Bool} {h : Heap} {a l : Addr} (e : h.get? a = some (obK k l)) : ItK k h a l 0 := by
  cases k
  · exact ⟨_, e, rfl, rfl⟩
  · exact ⟨_, e, rfl, rfl⟩
theorem SqK.eb {k : Bool} {h h' : Heap} {a b : Addr} {xs : Array Value} (x : SqK k h a xs) (s : Heap.ExtBut b h h') (n : a ≠ b) : SqK k h' a xs := by
  cases k
  · exact Heap.IsTuple.extBut x s n
  · exact Heap.IsList.extBut x s n
theorem SqK.push {k : Bool} {h : Heap} {a : Addr} {xs : Array Value} (x : SqK k h a xs) (o : Obj) : SqK k (h.push o) a xs := by
  cases k
  · exact Heap.IsTuple.push x o
  · exact Heap.IsList.push x o
theorem SqK.lt {k : Bool} {h : Heap} {a : Addr} {xs : Array Value} (x : SqK k h a xs) : a < h.objs.size := by
  cases k
  · obtain ⟨o, e, _⟩ := x; exact Heap.lt_size e
  · obtain ⟨o, e, _⟩ := x; exact Heap.lt_size e
section
variable {prog : Program} {w : World} {A : Around} {E : Value → Shared → Prop} {s : Shared}
theorem nextK {k : Bool} {it l : Addr} {i : Nat} {xs : Array Value} {x : Value} {Q : Value → Shared → Prop} (hi : ItK k s.heap it l i) (hl : SqK k s.heap l xs) (hx : xs[i]? = some x)
    (q : ∀ h', ItK k h' it l (i + 1) → Heap.SameBut it s.heap h' → Q x { s with heap := h' }) : wpAny (model prog w) A (Builtin.SmallTypes.nextOf (.ref it)) Q E s := by
  cases k
  · exact RZ.nextOf_tuple_item hi hl hx q
  · exact wpAny_nextOf_list_item hi hl hx q
theorem lastK {k : Bool} {it l : Addr} {i : Nat} {xs : Array Value} {Q : Value → Shared → Prop} (hh : A.handled = none) (hi : ItK k s.heap it l i) (hl : SqK k s.heap l xs) (hx : xs[i]? = none)
    (q : ∀ h' e, Heap.ExtBut it s.heap h' → (∃ o, h'.get? e = some o ∧ o.cls = .type "StopIteration") → E (.ref e) { s with heap := h' }) : wpAny (model prog w) A (Builtin.SmallTypes.nextOf (.ref it)) Q E s := by
  cases k
  · exact RZ.nextOf_tuple_end hh hi hl hx q
  · exact wpAny_nextOf_list_end hh hi hl hx q
theorem iterK {k : Bool} {l : Addr} {xs : Array Value} {Q : Value → Shared → Prop} (hl : SqK k s.heap l xs) (q : Q (.ref s.heap.objs.size) { s with heap := s.heap.push (obK k l) }) : wpAny (model prog w) A (pyIter (.ref l)) Q E s := by
  cases k
  · exact wpAny_pyIter_tuple hl q
  · exact wpAny_pyIter_list hl q
/-- what stays while a zip turns -/
def Stay (z TO i1 i2 : Addr) (h h' : Heap) : Prop := ∀ c o, c ≠ z → c ≠ TO → c ≠ i1 → c ≠ i2 → h.get? c = some o → h'.get? c = some o
/-- a turn of a zip -/
theorem zipK_item {k l : Bool} {z TI TO i j a b : Addr} {m n : Nat} {xs ys : Array Value} {x y u v : Value} {Q : Option Value → Shared → Prop} (D : ZipApart z TI TO i j a b)
    (hz : IsZip s.heap z TI TO .none) (hI : IsPair s.heap TI (.ref i) (.ref j)) (hO : IsPair s.heap TO u v) (h1 : ItK k s.heap i a m) (h2 : ItK l s.heap j b n) (q1 : SqK k s.heap a xs) (q2 : SqK l s.heap b ys)
    (hx : xs[m]? = some x) (hy : ys[n]? = some y) (q : ∀ h', IsZip h' z TI TO (rawInt s.heap.objs.size) → IsPair h' TO x y → ItK k h' i a (m + 1) → ItK l h' j b (n + 1) → IsPair h' s.heap.objs.size x y → Stay z TO i j s.heap h' → Q (some (.ref s.heap.objs.size)) { s with heap := h' }) :
    wpAny (model prog w) A (pyNext (.ref z)) Q E s := by
  have hT : s.TypeIs (.ref z) "zip" := ⟨_, hz, rfl⟩
  unfold pyNext
  suffices H : ∀ {E' : Value → Shared → Prop}, wpAny (model prog w) A.in1 (Builtin.«zip.__next__» ⟨[.ref z], []⟩) (fun fin s' => ∃ r, fin = .done (.ret r) ∧ Q (some r) s') E' s from
    wpAny_bind (wpAny_attempt (wpAny_callSpecial?_slot (name := Str.ofString "__next__") hT F.slot_zip_next (wpAny_call_entry F.slot_zip_next hT F.entry_zip_next (wpAny_mono (H (E' := fun _ _ => False)) (fun f s' ⟨r, e, h⟩ => ⟨r, e, wpAny_pure h⟩) fun _ _ h => h.elim) (F.args_zip_next_1 _))))
  intro E'
  show wpAny _ _ (field (.ref z) 2 >>= _) _ _ _
  refine wpAny_bind (wpAny_field (x := .bool false) hz rfl rfl ?_)
  show wpAny _ _ (field (.ref z) 3 >>= _) _ _ _
  refine wpAny_bind (wpAny_field (x := .ref TI) hz rfl rfl (wpAny_bind (wpAny_seqItems hI rfl ?_)))
  show wpAny _ _ (Builtin.SmallTypes.ownedTupleIsFree (.ref z) >>= _) _ _ _
  unfold Builtin.SmallTypes.ownedTupleIsFree
  refine wpAny_bind (wpAny_bind (wpAny_field (x := .none) hz rfl rfl (wpAny_pure ?_)))
  simp only [if_true]
  refine wpAny_bind (wpAny_rule (wpAny_bind (wpAny_field (x := .ref TO) hz rfl rfl (wpAny_bind (wpAny_setField_rec hz (by simp) fun g1 z1 s1 => ?_)))))
  replace z1 : IsZip g1 z TI TO .ellipsis := z1
  refine wpAny_bind ?_
  simp only [List.zipIdx_cons, List.zipIdx_nil, List.forIn_cons, List.forIn_nil]
  refine wpAny_bind (wpAny_bind (wpAny_onRaise ?_))
  show wpAny _ _ (Builtin.SmallTypes.nextOf (.ref i) >>= _) _ _ _
  refine wpAny_bind (nextK (h1.eb s1.extBut D.i1z) (q1.eb s1.extBut D.l1z) hx fun g2 w1 s2 => wpAny_pure ?_)
  have o2 : IsPair g2 TO u v := s2.extBut _ _ D.TOi1 (s1.extBut _ _ D.TOz hO)
  refine wpAny_bind (wpAny_seqItems o2 rfl (wpAny_bind (wpAny_updateSeq_pair o2 fun g3 o3 s3 => wpAny_bind (wpAny_letGo (wpAny_pure ?_)))))
  replace o3 : IsPair g3 TO x v := o3
  refine wpAny_bind (wpAny_bind (wpAny_onRaise ?_))
  show wpAny _ _ (Builtin.SmallTypes.nextOf (.ref j) >>= _) _ _ _
  refine wpAny_bind (nextK (((h2.eb s1.extBut D.i2z).eb s2.extBut D.i12.symm).eb s3.extBut D.TOi2.symm) (((q2.eb s1.extBut D.l2z).eb s2.extBut D.l2i1).eb s3.extBut D.l2TO) hy fun g4 w2 s4 => wpAny_pure ?_)
  have o4 : IsPair g4 TO x v := s4.extBut _ _ D.TOi2 o3
  refine wpAny_bind (wpAny_seqItems o4 rfl (wpAny_bind (wpAny_updateSeq_pair o4 fun g5 o5 s5 => wpAny_bind (wpAny_letGo (wpAny_pure (wpAny_pure ?_))))))
  replace o5 : IsPair g5 TO x y := o5
  refine wpAny_bind (wpAny_seqItems o5 rfl (wpAny_bind (wpAny_newTuple ?_)))
  have sz : g5.objs.size = s.heap.objs.size := s5.1.trans (s4.1.trans (s3.1.trans (s2.1.trans s1.1)))
  have z5 : IsZip g5 z TI TO .ellipsis := s5.extBut _ _ D.TOz.symm (s4.extBut _ _ D.i2z.symm (s3.extBut _ _ D.TOz.symm (s2.extBut _ _ D.i1z.symm z1)))
  have st5 : Stay z TO i j s.heap g5 := fun c o c1 c2 c3 c4 e => s5.extBut _ _ c2 (s4.extBut _ _ c4 (s3.extBut _ _ c2 (s2.extBut _ _ c3 (s1.extBut _ _ c1 e))))
  have w15 : ItK k g5 i a (m + 1) := ((w1.eb s3.extBut D.TOi1.symm).eb s4.extBut D.i12).eb s5.extBut D.TOi1.symm
  have w25 : ItK l g5 j b (n + 1) := w2.eb s5.extBut D.TOi2.symm
  have zl : z < g5.objs.size := Heap.lt_size z5
  show wpAny _ _ (Builtin.SmallTypes.ownedTupleHandOut (.ref z) (.ref g5.objs.size) >>= _) _ _ _
  unfold Builtin.SmallTypes.ownedTupleHandOut
  have z6 : IsZip (g5.push { cls := .type "tuple", data := .seq #[x, y] }) z TI TO .ellipsis := Heap.get?_push_of_some _ z5
  refine wpAny_bind (wpAny_bind (wpAny_setField_rec z6 (by simp) fun g7 z7 s7 => ?_))
  replace z7 : IsZip g7 z TI TO (rawInt g5.objs.size) := z7
  refine wpAny_setField_rec z7 (by simp) fun g8 z8 s8 => ?_
  replace z8 : IsZip g8 z TI TO (rawInt g5.objs.size) := z8
  have up : ∀ c o, c ≠ z → g5.get? c = some o → g8.get? c = some o := fun c o n e => s8.extBut _ _ n (s7.extBut _ _ n (Heap.get?_push_of_some _ e))
  have t8 : IsPair g8 g5.objs.size x y := s8.extBut _ _ (Nat.ne_of_gt zl) (s7.extBut _ _ (Nat.ne_of_gt zl) (Heap.get?_push_size _ rfl))
  rw [sz] at z8 t8
  refine wpAny_pure ⟨.ref g5.objs.size, rfl, ?_⟩
  rw [sz]
  exact q g8 z8 (up _ _ D.TOz o5) (w15.on fun o e => up _ o D.i1z e) (w25.on fun o e => up _ o D.i2z e) t8 fun c o c1 c2 c3 c4 e => up c o c1 (st5 c o c1 c2 c3 c4 e)
/-- a zip whose one part is at its end -/
theorem zipK_end {k l : Bool} {z TI TO i j a b : Addr} {m n : Nat} {xs ys : Array Value} {u v : Value} {Q : Option Value → Shared → Prop} (hh : A.handled = none) (D : ZipApart z TI TO i j a b)
    (hz : IsZip s.heap z TI TO .none) (hI : IsPair s.heap TI (.ref i) (.ref j)) (hO : IsPair s.heap TO u v) (h1 : ItK k s.heap i a m) (h2 : ItK l s.heap j b n) (q1 : SqK k s.heap a xs) (q2 : SqK l s.heap b ys)
    (he : xs[m]? = none ∨ ys[n]? = none) (q : ∀ h', Stay z TO i j s.heap h' → Q none { s with heap := h' }) : wpAny (model prog w) A (pyNext (.ref z)) Q E s := by
  have hT : s.TypeIs (.ref z) "zip" := ⟨_, hz, rfl⟩
  unfold pyNext
  suffices H : ∀ {Q' : Fin → Shared → Prop} {E' : Value → Shared → Prop}, (∀ h' e, Stay z TO i j s.heap h' → (∃ o, h'.get? e = some o ∧ o.cls = .type "StopIteration") → E' (.ref e) { s with heap := h' }) → wpAny (model prog w) A.in1 (Builtin.«zip.__next__» ⟨[.ref z], []⟩) Q' E' s from
    wpAny_bind (wpAny_attempt (wpAny_callSpecial?_slot (name := Str.ofString "__next__") hT F.slot_zip_next (wpAny_call_entry F.slot_zip_next hT F.entry_zip_next (H fun h' e st ⟨o, ho, hc⟩ => wpAny_bind (wpAny_isInstance (T := "StopIteration") (b := true) ⟨o, ho, hc⟩ isSubtype_stop (wpAny_pure (q _ st)))) (F.args_zip_next_1 _))))
  intro Q' E' fin
  show wpAny _ _ (field (.ref z) 2 >>= _) _ _ _
  refine wpAny_bind (wpAny_field (x := .bool false) hz rfl rfl ?_)
  show wpAny _ _ (field (.ref z) 3 >>= _) _ _ _
  refine wpAny_bind (wpAny_field (x := .ref TI) hz rfl rfl (wpAny_bind (wpAny_seqItems hI rfl ?_)))
  show wpAny _ _ (Builtin.SmallTypes.ownedTupleIsFree (.ref z) >>= _) _ _ _
  unfold Builtin.SmallTypes.ownedTupleIsFree
  refine wpAny_bind (wpAny_bind (wpAny_field (x := .none) hz rfl rfl (wpAny_pure ?_)))
  simp only [if_true]
  refine wpAny_bind (wpAny_rule (wpAny_bind (wpAny_field (x := .ref TO) hz rfl rfl (wpAny_bind (wpAny_setField_rec hz (by simp) fun g1 z1 s1 => ?_)))))
  replace z1 : IsZip g1 z TI TO .ellipsis := z1
  refine wpAny_bind ?_
  simp only [List.zipIdx_cons, List.zipIdx_nil, List.forIn_cons, List.forIn_nil]
  refine wpAny_bind (wpAny_bind (wpAny_onRaise ?_))
  show wpAny _ _ (Builtin.SmallTypes.nextOf (.ref i) >>= _) _ _ _
  cases hx : xs[m]? with
  | none =>
    refine wpAny_bind (lastK (show A.in1.handled = none from hh) (h1.eb s1.extBut D.i1z) (q1.eb s1.extBut D.l1z) hx fun g2 e s2 ⟨oe, ho, hc⟩ => ?_)
    have z2 : IsZip g2 z TI TO .ellipsis := s2 _ _ D.i1z.symm z1
    have ne : e ≠ z := fun x => by subst x; rw [z2] at ho; cases ho; simp at hc
    exact wpAny_setField_rec z2 (by simp) fun g3 _ s3 => fin g3 e (fun c o c1 _ c3 _ x => s3.extBut _ _ c1 (s2 _ _ c3 (s1.extBut _ _ c1 x))) ⟨oe, s3.extBut _ _ ne ho, hc⟩
  | some x =>
    have hy : ys[n]? = none := by
      rcases he with h | h
      · rw [hx] at h; cases h
      · exact h
    refine wpAny_bind (nextK (h1.eb s1.extBut D.i1z) (q1.eb s1.extBut D.l1z) hx fun g2 w1 s2 => wpAny_pure ?_)
    have o2 : IsPair g2 TO u v := s2.extBut _ _ D.TOi1 (s1.extBut _ _ D.TOz hO)
    refine wpAny_bind (wpAny_seqItems o2 rfl (wpAny_bind (wpAny_updateSeq_pair o2 fun g3 o3 s3 => wpAny_bind (wpAny_letGo (wpAny_pure ?_)))))
    refine wpAny_bind (wpAny_bind (wpAny_onRaise ?_))
    show wpAny _ _ (Builtin.SmallTypes.nextOf (.ref j) >>= _) _ _ _
    refine wpAny_bind (lastK (show A.in1.handled = none from hh) (((h2.eb s1.extBut D.i2z).eb s2.extBut D.i12.symm).eb s3.extBut D.TOi2.symm) (((q2.eb s1.extBut D.l2z).eb s2.extBut D.l2i1).eb s3.extBut D.l2TO) hy fun g4 e s4 ⟨oe, ho, hc⟩ => ?_)
    have z4 : IsZip g4 z TI TO .ellipsis := s4 _ _ D.i2z.symm (s3.extBut _ _ D.TOz.symm (s2.extBut _ _ D.i1z.symm z1))
    have ne : e ≠ z := fun x => by subst x; rw [z4] at ho; cases ho; simp at hc
    exact wpAny_setField_rec z4 (by simp) fun g5 _ s5 => fin g5 e (fun c o c1 c2 c3 c4 x => s5.extBut _ _ c1 (s4 _ _ c4 (s3.extBut _ _ c2 (s2.extBut _ _ c3 (s1.extBut _ _ c1 x))))) ⟨oe, s5.extBut _ _ ne ho, hc⟩
end
/-! the zip is made -/
abbrev zH1 (k : Bool) (h : Heap) (a : Addr) : Heap := h.push (obK k a)
abbrev zH2 (k l : Bool) (h : Heap) (a b : Addr) : Heap := (zH1 k h a).push (obK l b)
abbrev zH3 (k l : Bool) (h : Heap) (a b : Addr) : Heap := (zH2 k l h a b).push { cls := .type "tuple", data := .seq #[.ref h.objs.size, .ref (zH1 k h a).objs.size] }
abbrev zH4 (k l : Bool) (h : Heap) (a b : Addr) : Heap := (zH3 k l h a b).push { cls := .type "tuple", data := .seq #[.none, .none] }
abbrev zH5 (k l : Bool) (h : Heap) (a b : Addr) : Heap := (zH4 k l h a b).push { cls := .type "zip", data := .fields #[.none, .bool false, .bool false, .ref (zH2 k l h a b).objs.size, .ref (zH3 k l h a b).objs.size] }
theorem meets_zipK (k l : Bool) (a b : Addr) (xs ys : Array Value) :
    Meets (Builtin.«zip.__new__» ⟨[.type "zip", .ref a, .ref b], []⟩) (fun _ R s => SqK k s.heap a xs ∧ SqK l s.heap b ys ∧ R (.ok (.ret (.ref (zH4 k l s.heap a b).objs.size))) { s with heap := zH5 k l s.heap a b }) :=
  .of_wp fun prog w A R s h => by
    obtain ⟨hp, g, d, tk, os⟩ := s
    obtain ⟨q1, q2, r⟩ := h
    have hsub := sub_zip
    have qa : SqK k (Shared.heap ⟨hp, g, d, tk, os⟩) a xs := q1
    have qb : SqK l (Shared.heap ⟨hp.push (obK k a), g, d, tk, os⟩) b ys := q2.push _
    wp_walk using iterK qa, iterK qb
    exact ⟨_, rfl, r⟩
section
variable {prog : Program} {w : World} {A : Around} {E : Value → Shared → Prop} {s : Shared}
theorem call_zipK {k l : Bool} {a b : Addr} {xs ys : Array Value} {Q : Value → Shared → Prop} (q1 : SqK k s.heap a xs) (q2 : SqK l s.heap b ys)
    (h : ∀ h', IsZip h' (s.heap.objs.size + 4) (s.heap.objs.size + 2) (s.heap.objs.size + 3) .none → IsPair h' (s.heap.objs.size + 2) (.ref s.heap.objs.size) (.ref (s.heap.objs.size + 1)) → IsPair h' (s.heap.objs.size + 3) .none .none →
      ItK k h' s.heap.objs.size a 0 → ItK l h' (s.heap.objs.size + 1) b 0 → (∀ c o, s.heap.get? c = some o → h'.get? c = some o) → Q (.ref (s.heap.objs.size + 4)) { s with heap := h' }) :
    wpAny (model prog w) A (call (.type "zip") [.ref a, .ref b]) Q E s := by
  refine callType_new F.called_zip (by decide) (F.typeCall_zip_2 _ _) (F.newCall_zip_2 _ _) (fun o => F.args_object_init_3 o _ _) F.entry_zip_new (meets_zipK k l a b xs ys) ⟨q1, q2, ?_⟩
  have e1 : (zH1 k s.heap a).objs.size = s.heap.objs.size + 1 := Heap.size_push ..
  have e2 : (zH2 k l s.heap a b).objs.size = s.heap.objs.size + 2 := by rw [Heap.size_push, e1]
  have e3 : (zH3 k l s.heap a b).objs.size = s.heap.objs.size + 3 := by rw [Heap.size_push, e2]
  have e4 : (zH4 k l s.heap a b).objs.size = s.heap.objs.size + 4 := by rw [Heap.size_push, e3]
  have p : ∀ {g : Heap} {o : Obj} {c : Addr} {u : Obj}, g.get? c = some u → (g.push o).get? c = some u := fun e => Heap.get?_push_of_some _ e
  have g5 : (zH5 k l s.heap a b).get? (zH4 k l s.heap a b).objs.size = some _ := Heap.get?_push_size _ rfl
  have g4 : (zH5 k l s.heap a b).get? (zH3 k l s.heap a b).objs.size = some _ := p (Heap.get?_push_size _ rfl)
  have g3 : (zH5 k l s.heap a b).get? (zH2 k l s.heap a b).objs.size = some _ := p (p (Heap.get?_push_size _ rfl))
  have g2 : (zH5 k l s.heap a b).get? (zH1 k s.heap a).objs.size = some _ := p (p (p (Heap.get?_push_size _ rfl)))
  have g1 : (zH5 k l s.heap a b).get? s.heap.objs.size = some _ := p (p (p (p (Heap.get?_push_size _ rfl))))
  show _ ∧ _
  rw [e2, e3, e4] at g5
  rw [e1, e2] at g3
  rw [e3] at g4
  rw [e1] at g2
  rw [e4]
  exact ⟨⟨_, g5, rfl⟩, h _ g5 g3 g4 (.new g1) (.new g2) fun c o e => p (p (p (p (p e))))⟩
end
/-! the turns -/
def SqX : Bool → PySem.W.Frag → Hp → Addr → List V → Prop
  | true, K, H, a, xs => SqL K H a xs
  | false, K, H, a, xs => SqT K H a xs
theorem SqX.inj {k : Bool} {X : Cx} {pins : List (Addr × Obj)} {σ : L2.St} {H : Hp} {s : Shared} (I : Inv X pins σ H s) {a : Addr} {xs ys : List V} (h : SqX k X.K H a xs) (h' : SqX k X.K H a ys) : xs = ys := by
  cases k
  · exact I.tuple_inj h h'
  · exact I.list_inj h h'
theorem SqX.of {k : Bool} {X : Cx} {pins : List (Addr × Obj)} {σ : L2.St} {H : Hp} {s : Shared} (I : Inv X pins σ H s) {a : Addr} {xs : List V} (h : SqX k X.K H a xs) : ∃ its : List Value, Vals xs its ∧ SqK k s.heap a its.toArray := by
  cases k
  · obtain ⟨its, rv, p, _⟩ := I.tuple h
    exact ⟨its, rv, p⟩
  · obtain ⟨its, rv, p, _⟩ := I.list h
    exact ⟨its, rv, p.isList⟩
/-- the two at a and b as they stand at each turn, the items in new pairs -/
def ItzX (K : PySem.W.Frag) (k l : Bool) (a b : Addr) : It :=
  ⟨fun i H => ∃ (xs ys : List V) (x y : V), SqX k K H a xs ∧ SqX l K H b ys ∧ xs[i]? = some x ∧ ys[i]? = some y,
    fun i H v H' => ∃ T x y, v = .ref T ∧ H T = none ∧ H' = upd H T (.tup [x, y]) ∧ (∀ xs, SqX k K H a xs → xs[i]? = some x) ∧ ∀ ys, SqX l K H b ys → ys[i]? = some y,
    fun i H => ∃ xs ys : List V, SqX k K H a xs ∧ SqX l K H b ys ∧ (xs.length ≤ i ∨ ys.length ≤ i)⟩
theorem turn_zipX {P : Program} {w : World} {K : PySem.W.Frag} {elts : List Expr} {kk : Nat} {tpos : Pos} {k l : Bool} {a b z TI TO i1 i2 : Addr} (D : ZipApart z TI TO i1 i2 a b) :
    Turn P w K (.Tuple elts kk tpos) (ItzX K k l a b) [z, TI, TO, i1, i2] z (fun i h => IsZip h z TI TO .none ∧ IsPair h TI (.ref i1) (.ref i2) ∧ (∃ x y, IsPair h TO x y) ∧ ItK k h i1 a i ∧ ItK l h i2 b i) where
  mem := by simp
  obj := fun i h st c hc => by
    obtain ⟨hz, hI, ⟨x, y, hO⟩, w1, w2⟩ := st
    simp only [List.mem_cons, List.not_mem_nil, or_false] at hc
    rcases hc with rfl | rfl | rfl | rfl | rfl
    · exact ⟨_, hz, fun v q => nomatch q⟩
    · exact ⟨_, hI, fun v q => nomatch q⟩
    · exact ⟨_, hO, fun v q => nomatch q⟩
    · exact w1.ob
    · exact w2.ob
  keep := fun i h h' st q => by
    obtain ⟨hz, hI, ⟨x, y, hO⟩, w1, w2⟩ := st
    exact ⟨q z (by simp) _ hz, q TI (by simp) _ hI, ⟨x, y, q TO (by simp) _ hO⟩, w1.on fun o e => q i1 (by simp) o e, w2.on fun o e => q i2 (by simp) o e⟩
  item := by
    intro X hP hw hK hc i pins s σ H E I hf st hg
    subst hP hw hK
    obtain ⟨hz, hI, ⟨x0, y0, hO⟩, w1, w2⟩ := st
    obtain ⟨xs, ys, x, y, qx, qy, hx, hy⟩ := hg
    obtain ⟨its, rv, p⟩ := SqX.of I qx
    obtain ⟨its2, rv2, p2⟩ := SqX.of I qy
    obtain ⟨u, hu, ru⟩ := rv.get hx
    obtain ⟨u2, hu2, ru2⟩ := rv2.get hy
    have zl : z < s.heap.objs.size := Heap.lt_size hz
    refine zipK_item D hz hI hO w1 w2 p p2 (x := u) (y := u2) (by simpa using hu) (by simpa using hu2) fun h' z' O' w1' w2' hT hk => ?_
    refine ⟨_, rfl, wpAny_letOwnedTupleGo_zip (s := { s with heap := h' }) z' fun h'' z'' sb => ?_⟩
    have T2 : h''.get? s.heap.objs.size = some { cls := .type "tuple", data := .seq #[u, u2] } := (sb.2 _ (Nat.ne_of_gt zl)).trans hT
    have new : ObjOk X.prog X.w (upd H s.heap.objs.size (.tup [x, y])) h'' s.heap.objs.size (.tup [x, y]) := ⟨(by show 2 ≤ sizeLine; decide), [u, u2], .cons ru (.cons ru2 .nil), ⟨_, T2, rfl, _, rfl⟩⟩
    have mem : ∀ {c : Addr} (c' : Addr), c ∉ [z, TI, TO, i1, i2] → c' ∈ [z, TI, TO, i1, i2] → c ≠ c' := fun c' n m e => n (e ▸ m)
    have I1 : Inv X pins σ (upd H s.heap.objs.size (.tup [x, y])) { s with heap := h'' } :=
      I.turnedNew (t' := s.toks) (ch := [z, TI, TO, i1, i2]) (fun c o hb e => (sb.2 c (mem z hb (by simp))).trans (hk c o (mem z hb (by simp)) (mem TO hb (by simp)) (mem i1 hb (by simp)) (mem i2 hb (by simp)) e)) hf (Nat.le_refl _) new
    refine ⟨.ref s.heap.objs.size, _, I1, rfl, ⟨_, x, y, rfl, I.hok.fresh (Nat.le_refl _), rfl, fun l hl => by rw [SqX.inj I hl qx]; exact hx, fun l hl => by rw [SqX.inj I hl qy]; exact hy⟩,
      ⟨z'', (sb.2 _ D.TIz).trans (hk _ _ D.TIz D.TITO D.TIi1 D.TIi2 hI), ⟨u, u2, (sb.2 _ D.TOz).trans O'⟩, w1'.on fun o e => (sb.2 _ D.i1z).trans e, w2'.on fun o e => (sb.2 _ D.i2z).trans e⟩, fun c hcm => ?_⟩
    have lt : c < s.heap.objs.size := by
      have m := hcm
      simp only [List.mem_cons, List.not_mem_nil, or_false] at m
      rcases m with rfl | rfl | rfl | rfl | rfl
      · exact zl
      · exact Heap.lt_size hI
      · exact Heap.lt_size hO
      · exact w1.lt
      · exact w2.lt
    rw [upd_ne (Nat.ne_of_lt lt)]
    exact (hf c hcm).1
  done := by
    intro X hP hw hK hc i pins s σ H E I hf st hg
    subst hP hw hK
    obtain ⟨hz, hI, ⟨x0, y0, hO⟩, w1, w2⟩ := st
    obtain ⟨xs, ys, qx, qy, hend⟩ := hg
    obtain ⟨its, rv, p⟩ := SqX.of I qx
    obtain ⟨its2, rv2, p2⟩ := SqX.of I qy
    have l1 := rv.length
    have l2 := rv2.length
    have he : its.toArray[i]? = none ∨ its2.toArray[i]? = none := by
      rcases hend with q | q
      · exact .inl (by simp; omega)
      · exact .inr (by simp; omega)
    have mem : ∀ {c : Addr} (c' : Addr), c ∉ [z, TI, TO, i1, i2] → c' ∈ [z, TI, TO, i1, i2] → c ≠ c' := fun c' n m e => n (e ▸ m)
    exact zipK_end (I.ok.hd hc) D hz hI hO w1 w2 p p2 he fun h' hk => ⟨rfl, I.turnedL (t' := s.toks) (ch := [z, TI, TO, i1, i2]) (fun c o hb e => hk c o (mem z hb (by simp)) (mem TO hb (by simp)) (mem i1 hb (by simp)) (mem i2 hb (by simp)) e) hf⟩
  self := fun A i s Q E st h => wpAny_pyIter_zip st.1 h
def iZipX (K : PySem.W.Frag) (ta : TA) : TI := fun σ H R => ta σ H fun vs H1 => ∃ a b xs ys k l, vs = [.ref a, .ref b] ∧ SqX k K H1 a xs ∧ SqX l K H1 b ys ∧ R (ItzX K k l a b) H1
theorem pi_zipX {X : Cx} {e e2 : Expr} {ta : TA} {p pos tpos : Pos} {elts : List Expr} {kk : Nat} (hg : Gl X "zip") (hm : X.mg "zip" = none) (ha : PA X [e, e2] ta)
    (hs : starEach [e, e2] X.env = (false, eval e X.env) :: starEach [e2] X.env := by rfl) (hpl : (backTo pos (starEach [e2] X.env)).any (·.1) = false := by rfl) :
    PI X (.Tuple elts kk tpos) (.Call (.Name "zip" p) [e, e2] [] pos) (iZipX X.K ta) := by
  refine ⟨fun pins s σ H R I h => ?_⟩
  refine Call_ (ld_blt I hg hm PyProof.Rows.boot_zip (PyProof.Rows.callWith_type1 (thn (ha.run pos pins s σ H _ I h) fun us s1 ⟨vs, H1, I1, r1, q1⟩ => ?_) hs hpl))
  obtain ⟨a, b, xs, ys, k, l, rfl, qx, qy, q⟩ := q1
  obtain ⟨u, v, rfl, r, r'⟩ : ∃ u v, us = [u, v] ∧ RelV (.ref a) u ∧ RelV (.ref b) v := by
    cases r1 with
    | cons r rr => cases rr with
      | cons r' rr => cases rr; exact ⟨_, _, rfl, r, r'⟩
  cases r
  cases r'
  obtain ⟨its, rv, p1⟩ := SqX.of I1 qx
  obtain ⟨its2, rv2, p2⟩ := SqX.of I1 qy
  refine call_zipK p1 p2 fun h' hz hI hO w1 w2 hk => wpAny_pyIter_zip hz ?_
  have I2 : Inv X pins σ H1 { s1 with heap := h' } := I1.kept (t' := s1.toks) hk
  refine ⟨s1.heap.objs.size + 4, [s1.heap.objs.size + 4, s1.heap.objs.size + 2, s1.heap.objs.size + 3, s1.heap.objs.size, s1.heap.objs.size + 1], _, _, H1, rfl, I2, turn_zipX (PySem.W.ktu_apart s1.heap.objs.size a b p1.lt p2.lt), ⟨hz, hI, ⟨_, _, hO⟩, w1, w2⟩, fun c hcm => ?_, q⟩
  have le : s1.heap.objs.size ≤ c := by
    simp only [List.mem_cons, List.not_mem_nil, or_false] at hcm
    rcases hcm with rfl | rfl | rfl | rfl | rfl
    · exact Nat.le_add_right _ _
    · exact Nat.le_add_right _ _
    · exact Nat.le_add_right _ _
    · exact Nat.le_refl _
    · exact Nat.le_add_right _ _
  exact I1.fpOk le (I1.hok.fresh le)
theorem walk_zipX {K : PySem.W.Frag} {k l : Bool} {a b : Addr} {xs ys : List V} (hl : xs.length = ys.length) : Walk (ItzX K k l a b) xs.length (fun H => SqX k K H a xs ∧ SqX l K H b ys) (YPair (fun i => xs[i]?) (fun i => ys[i]?)) := by
  refine ⟨fun i H lt q => ⟨xs, ys, xs[i], ys[i]'(by omega), q.1, q.2, List.getElem?_eq_getElem lt, List.getElem?_eq_getElem (by omega)⟩, fun H q => ⟨xs, ys, q.1, q.2, .inl (Nat.le_refl _)⟩, fun i H v H' lt q y => ?_⟩
  obtain ⟨T, x, z, h1, h2, h3, h4, h5⟩ := y
  exact ⟨T, x, z, h1, h2, h3, h4 xs q.1, h5 ys q.2⟩
end Zm
/-! name = {k: v for ..}, the name a plain local on one line -/
namespace Sdc
open PySem PySem.Spec PyProof.Rows L2
theorem swD {kx vx : Expr} {gs : List Comprehension} {scope : Scope} {pos py : Pos} {y : Str} {l : Nat} {env : Env} (hk : env.scope.kind = .function) (hy : env.scope.names.lookup y = some .local) (hl : (py.line == pos.line) = true)
    (ha : (scope.names.any fun (n, k) => n == y && (k == .local || k == .cell)) = false) : swapsWith (.DictComp kx vx gs scope pos) (some (.Name y py)) l env = pure true := by
  have k1 : env.kindOf y = some .local := hy
  have k2 : env.blockKind = .function := (show env.blockKind = (match env.scope.kind with | _ => _) from rfl).trans (by rw [hk]; rfl)
  unfold swapsWith
  simp only [k1, k2, ha, Expr.pos, hl]
  rfl
theorem ps_setDc {X : Cx} {i : Nat} {y : Str} {py : Pos} {kx vx tg iter : Expr} {ifs : List Expr} {scope : Scope} {own : List (Str × Nat)} {pos spos : Pos} {wi : TI} {g : TG} {tt : TT} {tk tv : TE} (hc : X.calm = true) (hN : X.N.Nodup) (hy : X.N[i]? = some y) (hyl : X.env.scope.names.lookup y = some .local)
    (hsw : swapsWith (.DictComp kx vx [⟨tg, iter, ifs, 0⟩] scope pos) (some (.Name y py)) spos.line X.env = pure true) (hi : PI X tg iter wi) (ok : BlkOk X.N X.env.scope scope own)
    (hg : ∀ (s : Shared) (H : Hp) (C : Addr) (cl : List (Str × Addr)) (fp : List Addr), PG (X.blk s H scope (compEnvC scope cl C X.env) fp) tg g) (ht : ∀ (s : Shared) (H : Hp) (C : Addr) (cl : List (Str × Addr)) (fp : List Addr), PTs (X.blk s H scope (compEnvC scope cl C X.env) fp) ifs tt)
    (hk : ∀ (s : Shared) (H : Hp) (C : Addr) (cl : List (Str × Addr)) (fp : List Addr), PE (X.blk s H scope (compEnvC scope cl C X.env) fp) kx tk) (he : ∀ (s : Shared) (H : Hp) (C : Addr) (cl : List (Str × Addr)) (fp : List Addr), PE (X.blk s H scope (compEnvC scope cl C X.env) fp) vx tv)
    (hs : ∀ x, foldedSetIterable iter X.env x = pure x := by intro _; rfl) :
    PS X (.Assign [.Name y py] (.DictComp kx vx [⟨tg, iter, ifs, 0⟩] scope pos) spos) (tAsg (tDc wi g tt tk tv (own.map (·.2))) (gName i)) := by
  refine ⟨fun pins s σ H D I h => ?_⟩
  rw [exec_Assign_Name_used _ _ _ _ hsw]
  refine wpAny_bind (wpAny_standAt (wpAny_bind ?_))
  show wpAny _ X.A (comprehension (.DictComp kx vx [⟨tg, iter, ifs, 0⟩] scope pos) scope X.env (firstIterPos [⟨tg, iter, ifs, 0⟩] pos) newDict false (eval iter X.env) (some (assign (.Name y py) X.env)) >>= _) _ _ s
  have h : tDc wi g tt tk tv (own.map (·.2)) σ H (fun x H1 => gName i x σ H1 D.nx) := h
  refine wpAny_bind (thn (dc_core (Qf := fun _ s' => SP X pins D .next s') hc hN I hi ok hg ht hk he hs h fun L C s' m H' I' q hn f => ?_) fun _ s' hq => wpAny_pure (wpAny_pure hq))
  show wpAny _ _ (assign (.Name y py) X.env (.ref L)) _ _ _
  obtain ⟨f0, f1, f2, f3, f4, f5⟩ := f
  refine wpAny_assign_Name (store_ok2 (v := V.ref L) I' hN hy (.inl hyl) rfl (fun s2 I2 ⟨a, sb, ha⟩ => ?_) (.inr hyl))
  have ne : C ≠ a := ha.elim (fun z => by rw [z]; exact f1) fun z e => f4 y a z e.symm
  exact ⟨m, hn.sameBut sb ne, fun h3 sb3 => ⟨_, H', I2.turned (t' := s2.toks) (fun b o hb e => (sb3.2 b hb).trans e) f0 f1 f3 f4 f5, q⟩⟩
end Sdc
namespace Sj
open PySem L2 Sup StK Own Shw Exg Grd KepE
open NdefX (NF NScope ncx envF startF nscope_by)
open C8 (pss_cut tCut)
/-! k67: Chain.arrived -/
abbrev sChA : Stmt := inClass (top 31) 6
abbrev nChA : List Str := ["self", "digits", "levels", "cell", "digit"]
theorem scChA : FnScope nChA ["self", "digits"] (defScope sChA) := ⟨rfl, rfl, rfl, by decide +kernel, rfl, by decide +kernel, by decide +kernel⟩
/-- the level that a cell with a digit gives -/
def arr1 (ks : Kinds) (d : FrD) : V × Int → List (Str × Int)
  | (.str z, i) => if z ∈ kindZ ks true d.ys then [(z, i)] else []
  | _ => []
/-- the levels that arrive -/
def arrG (ks : Kinds) (d : FrD) (cs : List V) (is : List Int) : List (Str × Int) := (cs.zip is).flatMap (arr1 ks d)
/-- the name of a cell -/
def nmV : V → List Str
  | .str z => [z]
  | _ => []
theorem nm_cells (t : Int) (L : List (Addr × List Str)) : (cellsV t L).flatMap nmV = allN L := by
  unfold cellsV allN
  rw [List.flatMap_assoc]
  refine congrArg (fun f => List.flatMap f L) (funext fun x => ?_)
  rw [List.flatMap_append]
  have e : ∀ zs : List Str, (strv zs).flatMap nmV = zs := fun zs => by
    induction zs with
    | nil => rfl
    | cons z zs ih => show [z] ++ (strv zs).flatMap nmV = _; rw [ih]; rfl
  rw [e]
  exact List.append_nil _
theorem arr_names (ks : Kinds) (d : FrD) : ∀ (cs : List V) (is : List Int), List.Sublist ((arrG ks d cs is).map (·.1)) (cs.flatMap nmV)
  | [], is => by unfold arrG; rw [List.zip_nil_left]; exact List.nil_sublist _
  | c :: cs, [] => by unfold arrG; rw [List.zip_nil_right]; exact List.nil_sublist _
  | c :: cs, i :: is => by
    have ih := arr_names ks d cs is
    unfold arrG at ih ⊢
    rw [List.zip_cons_cons, List.flatMap_cons, List.flatMap_cons, List.map_append]
    refine List.Sublist.append ?_ ih
    cases c with
    | str z =>
      show List.Sublist (List.map _ (if z ∈ kindZ ks true d.ys then [(z, i)] else [])) [z]
      by_cases h : z ∈ kindZ ks true d.ys
      · rw [if_pos h]; exact List.Sublist.refl _
      · rw [if_neg h]; exact List.nil_sublist _
    | _ => exact List.nil_sublist _
theorem arr_mem {ks : Kinds} {d : FrD} : ∀ {cs : List V} {is : List Int} {p : Str × Int}, p ∈ arrG ks d cs is → p.1 ∈ kindZ ks true d.ys ∧ p.2 ∈ is
  | cs, is, p, h => by
    unfold arrG at h
    obtain ⟨⟨c, i⟩, h1, h2⟩ := List.mem_flatMap.mp h
    have hi : i ∈ is := (List.of_mem_zip h1).2
    cases c with
    | str z =>
      have h2 : p ∈ (if z ∈ kindZ ks true d.ys then [(z, i)] else []) := h2
      by_cases hz : z ∈ kindZ ks true d.ys
      · rw [if_pos hz] at h2
        obtain rfl := List.mem_singleton.mp h2
        exact ⟨hz, hi⟩
      · rw [if_neg hz] at h2
        cases h2
    | _ => cases h2
theorem arr_len (ks : Kinds) (d : FrD) (cs : List V) (is : List Int) : (arrG ks d cs is).length ≤ (cs.flatMap nmV).length := by
  have := (arr_names ks d cs is).length_le
  rwa [List.length_map] at this
theorem arr_snoc {ks : Kinds} {d : FrD} {cs : List V} {is : List Int} {j : Nat} {c : V} {i : Int} (h1 : cs[j]? = some c) (h2 : is[j]? = some i) : ((cs.zip is).take (j + 1)).flatMap (arr1 ks d) = ((cs.zip is).take j).flatMap (arr1 ks d) ++ arr1 ks d (c, i) := by
  have e : (cs.zip is)[j]? = some (c, i) := List.getElem?_zip_eq_some.mpr ⟨h1, h2⟩
  rw [List.take_add_one, e, Option.toList_some, List.flatMap_append]
  exact congrArg _ (List.append_nil _)
theorem arr_take {ks : Kinds} {d : FrD} (cs : List V) (is : List Int) (j : Nat) : List.Sublist (((cs.zip is).take j).flatMap (arr1 ks d)) (arrG ks d cs is) := by
  unfold arrG
  conv => rhs; rw [← List.take_append_drop j (cs.zip is)]
  rw [List.flatMap_append]
  exact List.sublist_append_left _ _
/-- the cells of a chain: names of legs, or ints -/
theorem cell_mem {t : Int} {L : List (Addr × List Str)} {c : V} (h : c ∈ cellsV t L) : (∃ z ∈ allN L, c = .str z) ∨ ∃ i, c = .int i := by
  obtain ⟨x, hx, h⟩ := List.mem_flatMap.mp h
  rcases List.mem_append.mp h with h | h
  · obtain ⟨z, hz, rfl⟩ := List.mem_map.mp h
    exact .inl ⟨z, List.mem_flatMap.mpr ⟨x, hx, hz⟩, rfl⟩
  · simp only [List.mem_cons, List.not_mem_nil, or_false] at h
    rcases h with rfl | rfl
    · exact .inr ⟨_, rfl⟩
    · exact .inr ⟨_, rfl⟩
theorem leg_same : ∀ {ys : List LegR} {r s : LegR}, (names ys).Nodup → r ∈ ys → s ∈ ys → r.z = s.z → r = s
  | y :: ys, r, s, nd, hr, hs, e => by
    obtain ⟨n1, n2⟩ := List.nodup_cons.mp (show (y.z :: names ys).Nodup from nd)
    rcases List.mem_cons.mp hr with e1 | h1
    · rcases List.mem_cons.mp hs with e2 | h2
      · rw [e1, e2]
      · exact absurd (List.mem_map.mpr ⟨s, h2, by rw [← e, e1]⟩) n1
    · rcases List.mem_cons.mp hs with e2 | h2
      · exact absurd (List.mem_map.mpr ⟨r, h1, by rw [e, e2]⟩) n1
      · exact leg_same n2 h1 h2 e
def spChA (K : PySem.W.Frag) (ks : Kinds) (CF CC CW : Addr) : Sp := fun vs H Q _ => ∃ (o f : Addr) (d : FrD) (L : List (Addr × List Str)) (b : Addr) (k : Bool) (is : List Int), vs = [.ref o, .ref b] ∧ ChIs ks CF CC H o f d L ∧ 1 ≤ d.t ∧ d.t ≤ 3 ∧ Zm.SqX k K H b (is.map V.int) ∧ (∀ H', Same H H' → Zm.SqX k K H' b (is.map V.int)) ∧ is.length = (cellsV d.t L).length ∧ (∀ i ∈ is, 0 ≤ i ∧ i ≤ d.t) ∧
  ∀ a H', H a = none → WdIs ks CF CW H' a d (arrG ks d (cellsV d.t L) is) → Same H H' → Q (.ref a) H'
structure ChAT (P : Program) (w : World) (K : PySem.W.Frag) (mg : Str → Option Value) (base : Heap) (ks : Kinds) (CF CC CW : Addr) : Prop where
  m : ChM K mg CF CC
  zip : mg "zip" = none
  cells : PropN P w K mg base 1 CC "cells" (spChC ks CF CC)
  isd : ∃ f fd, mg "is_driver" = some (.ref f) ∧ PySem.W.keepIn K (.ref f) = true ∧ Binds K fd ["frame", "value"] [] ∧ FnOk P w K mg base CX0 4 f fd ["frame", "value"] (spIsD K ks CF)
  mW : mg "Word" = some (.ref CW)
  cW : ∃ mc p g, ClX.CRead K CW mc ∧ ClX.CMet K CW mc "of" p g ∧ FnK P w K mg base CX0 8 g [] (fun vs zs H Q E => vs.length = 3 ∧ spWOf ks CF CW vs H Q E)
def ttIsD (K : PySem.W.Frag) (ks : Kinds) (CF : Addr) : TT := tB (tCall (spIsD K ks CF) [] E0 (tCons (tFld K (tVar 0) "frame") (tCons (tVar 3) tNil)))
section
variable {P : Program} {w : World} {K : PySem.W.Frag} {mg : Str → Option Value} {base : Heap}
theorem ok_cha {f CF CC CW : Addr} {fd : FuncData} {ks : Kinds} (F : Fun K "arrived" "Chain.arrived" sChA f fd) (T : ChAT P w K mg base ks CF CC CW) : FnOk P w K mg base CX0 9 f fd ["self", "digits"] (spChA K ks CF CC CW) := by
  obtain ⟨fD, fdD, mD, kD, bD, GD⟩ := T.isd
  obtain ⟨mc, pW, gW, cr, cm, GW⟩ := T.cW
  refine F.ok scChA (fun vs H Q E h => ?_) (fun cdv A outer s H vs Q E hr h => ?_)
  · obtain ⟨o, f, d, L, b, k, is, rfl, _⟩ := h
    rfl
  · obtain ⟨o, f, d, L, b, k, is, rfl, hC, t1, t3, hb, hbs, hl, hv, q⟩ := h
    have h40 := hC.p.le40 hC.fr
    have h8 := hC.p.l8
    obtain ⟨dx, B, h1, h2, h3⟩ := hC.at_
    refine ⟨_, pss_cons (Sdc.ps_setDc (i := 2) (tk := tVar 3) (tv := tVar 4) (tt := ttIsD K ks CF) (own := [("cell", 3), ("digit", 4)]) (g := gTup K 2 (gCons (gName 3) (gCons (gName 4) gNil))) rfl scChA.nd rfl rfl (Sdc.swD rfl rfl rfl (by decide +kernel))
          (Zm.pi_zipX (by rfl) T.zip (pa_cons (pe_propS (S := fun C => C = CC) (spP := fun _ => spChC ks CF CC) (pv 0) (fun C e => by rw [e]; exact T.cells) (hr.mono (by decide))) (pa_cons (pv 1) pa_nil)))
          (blkOk_by (N := nChA) (sc := defScope sChA) (by decide +kernel)) (fun _ _ _ _ _ => pg_tup rfl (pgs_cons (pg_name (i := 3) scChA.nd rfl (Or.inl rfl)) (pgs_cons (pg_name (i := 4) scChA.nd rfl (Or.inl rfl)) pgs_nil)))
          (fun _ _ _ _ _ => pts_one (pt_val (pe_call GD (hr.mono (by decide)) rfl mD kD bD .nil pass0 (pa_cons (pe_fld (pv 0) rfl) (pa_cons (pv 3) pa_nil))))) (fun _ _ _ _ _ => pv 3) (fun _ _ _ _ _ => pv 4))
      (pss_one (ps_ret (pe_cmethK (pe_glob rfl T.mW (v := .ref CW) rfl) cr cm GW hr pass0 (pa_cons (pe_fld (pv 0) rfl) (pa_cons (pv 2) pa_nil)) pk_nil))), ?_⟩
    refine ⟨_, rfl, o, CC, dx, _, rfl, h1, rfl, o, f, d, L, rfl, hC, fun c H1 hc hc1 s1 => ?_⟩
    obtain ⟨cs, ecs⟩ : ∃ cs, cs = cellsV d.t L := ⟨_, rfl⟩
    rw [← ecs] at hc1 hl q
    have hlm : (is.map V.int).length = is.length := List.length_map _
    have lc : cs.length ≤ 60 := by
      rw [ecs, cells_len]
      omega
    have lg : (arrG ks d cs is).length ≤ 40 := by
      have := arr_len ks d cs is
      rw [ecs, nm_cells, ← ecs] at this
      omega
    have nd : ((arrG ks d cs is).map (·.1)).Nodup := by
      have := arr_names ks d cs is
      rw [ecs, nm_cells] at this
      rw [ecs]
      exact List.Nodup.sublist this (hC.p.nd hC.fr)
    refine ⟨_, rfl, c, b, cs, is.map V.int, false, k, rfl, SqT.of hc1, hbs _ s1, fun D hD => ?_⟩
    refine SetT.dict_it (Zm.walk_zipX (K := K) (k := false) (l := k) (a := c) (b := b) (xs := cs) (ys := is.map V.int) (by omega)) (fun i H' => Same H1 H' ∧ H' D = some (.dK ((((cs.zip is).take i).flatMap (arr1 ks d)).map lvRow))) ⟨fun a u e => by rw [upd_ne (ne_of_none e hD)]; exact e, upd_same⟩
      (fun i H' _ p => ⟨SqT.of (p.1 _ _ hc1), hbs _ (s1.trans p.1)⟩) ?_ ?_
    · rintro j x Ho Ha hj ⟨sa, da⟩ ⟨T2, x1, y1, rfl, nT, rfl, hx1, hy1⟩
      obtain ⟨i1, ei, rfl⟩ : ∃ i1, is[j]? = some i1 ∧ V.int i1 = y1 := by
        have hy1 : (is.map V.int)[j]? = some y1 := hy1
        rw [List.getElem?_map] at hy1
        cases e : is[j]? with
        | none => rw [e] at hy1; cases hy1
        | some i1 => rw [e] at hy1; exact ⟨i1, rfl, Option.some.inj hy1⟩
      have hx1 : cs[j]? = some x1 := hx1
      have sT := same_at (o := .tup [x1, .int i1]) nT
      obtain ⟨Hb, eb⟩ : ∃ Hb, Hb = upd Ho T2 (.tup [x1, .int i1]) := ⟨_, rfl⟩
      have hT : Hb T2 = some (.tup [x1, .int i1]) := by rw [eb, upd_same]
      rw [← eb] at sT ⊢
      have sb := sa.trans sT
      have db := sT _ _ da
      refine ⟨T2, _, rfl, SqT.of hT, rfl, _, _, rfl, _, _, rfl, rfl, rfl, ?_⟩
      refine ⟨_, rfl, o, CC, dx, _, _, rfl, sb _ _ (s1 _ _ h1), T.m.cl, T.m.nF, chF_frame _ _, _, rfl, ?_⟩
      have sn := arr_snoc (ks := ks) (d := d) hx1 ei
      have lt40 : (((cs.zip is).take j).flatMap (arr1 ks d)).length ≤ 40 := Nat.le_trans (arr_take cs is j).length_le lg
      have hx := cell_mem (by rw [← ecs]; exact List.mem_of_getElem? hx1)
      refine ⟨f, d, x1, rfl, hC.fr.same (s1.trans sb), ?_⟩
      have stop : arr1 ks d (x1, i1) = [] → Same H1 Hb ∧ Hb D = some (.dK ((((cs.zip is).take (j + 1)).flatMap (arr1 ks d)).map lvRow)) := fun e => by
        rw [sn, e, List.append_nil]
        exact ⟨sb, db⟩
      rcases hx with ⟨z, hz, rfl⟩ | ⟨u, rfl⟩
      · obtain ⟨r, hr1, rfl⟩ := List.mem_map.mp (hC.p.pm.mem_iff.mp hz)
        refine .inl ⟨r, hr1, rfl, _, rfl, ?_⟩
        by_cases hk : r.C = ks.drv
        · rw [decide_eq_true hk]
          have hm : r.z ∈ kindZ ks true d.ys := List.mem_map.mpr ⟨r, List.mem_filter.mpr ⟨hr1, by rw [beq_true, decide_eq_true_eq]; exact hk⟩, rfl⟩
          have e1 : arr1 ks d (.str r.z, i1) = [(r.z, i1)] := if_pos hm
          dsimp only
          rw [if_pos rfl]
          refine ⟨_, rfl, _, rfl, _, Sum.inr r.z, rfl, db, ?_, ?_, ?_⟩
          · rw [List.length_map]
            exact Nat.lt_of_le_of_lt lt40 (by decide)
          · exact fun a u e => by rw [upd_ne (ne_of_none e hD)]; exact sb _ _ e
          · rw [upd_same, sn, e1, List.map_append, putK_new]
            · rfl
            · rw [valV_lv]
              cases el : lvG (((cs.zip is).take j).flatMap (arr1 ks d)) r.z with
              | none => rfl
              | some v =>
                have m := lvG_mem el
                have nd2 := List.Nodup.sublist ((arr_take cs is (j + 1)).map (·.1)) nd
                rw [sn, e1, List.map_append, List.nodup_append] at nd2
                exact absurd rfl (nd2.2.2 r.z (List.mem_map.mpr ⟨_, m, rfl⟩) r.z (List.mem_singleton.mpr rfl))
        · rw [decide_eq_false hk]
          refine stop (if_neg fun m => hk ?_)
          obtain ⟨r2, hr2, e2, hk2⟩ := kind_leg m
          rw [leg_same hC.fr.nd hr1 hr2 e2.symm]
          exact hk2
      · exact .inr ⟨.inr ⟨"int", .base (.int u), by decide +kernel⟩, _, rfl, stop rfl⟩
    rintro H2 ⟨s2, d2⟩
    have ez : (cs.zip is).take cs.length = cs.zip is := List.take_of_length_le (by rw [List.length_zip]; omega)
    rw [ez] at d2
    have s12 := s1.trans s2
    refine ⟨rfl, _, rfl, o, CC, dx, _, _, rfl, s12 _ _ h1, T.m.cl, T.m.nF, chF_frame _ _, _, rfl, rfl, rfl, f, D, d, _, rfl, hC.fr.same s12, d2, ⟨by unfold arrG at lg; omega, fun p hp => ?_⟩, t1, t3, fun a H3 ha hw s3 _ => q a H3 (s12.free ha) hw (s12.trans s3)⟩
    obtain ⟨m1, m2⟩ := arr_mem hp
    exact ⟨m1, hv _ m2⟩
end
end Sj
/-! sorted of a list of tuples of texts -/
namespace SortB
open PySem PySem.Spec PyProof.Rows L2
abbrev Ord := listOrd itemOrd
/-- a tuple of texts, as it is ordered -/
def rowKey (zs : List Str) : List (Int ⊕ List Nat) := zs.map fun z => Sum.inr z.cps.toList
def RLe (xs ys : List Str) : Prop := Ord.kle (rowKey xs) (rowKey ys)
theorem perm_map_inv {α β : Type} {f : α → β} : ∀ {L : List α} {xs : List β}, xs.Perm (L.map f) → ∃ ps : List α, ps.Perm L ∧ xs = ps.map f := by
  intro L xs h
  generalize hm : L.map f = m at h
  induction h generalizing L with
  | nil => exact ⟨[], by rw [List.map_eq_nil_iff.mp hm], rfl⟩
  | cons x h ih =>
    match L, hm with
    | a :: L, hm =>
      obtain ⟨h1, h2⟩ := List.cons.inj hm
      obtain ⟨ps, p1, p2⟩ := ih h2
      exact ⟨a :: ps, p1.cons a, by rw [List.map_cons, h1, p2]⟩
  | swap x y l =>
    match L, hm with
    | a :: b :: L, hm =>
      obtain ⟨h1, h2⟩ := List.cons.inj hm
      obtain ⟨h3, h4⟩ := List.cons.inj h2
      exact ⟨b :: a :: L, List.Perm.swap a b L, by rw [List.map_cons, List.map_cons, h1, h3, h4]⟩
  | trans h1 h2 ih1 ih2 =>
    obtain ⟨ps, p1, p2⟩ := ih2 hm
    obtain ⟨qs, q1, q2⟩ := ih1 p2.symm
    exact ⟨qs, q1.trans p1, q2⟩
theorem items_key : ∀ {us : List Value} {zs : List Str} (i : Nat), Vals (zs.map V.str) us → tupItems (fun _ => true) i us = some (rowKey zs)
  | [], [], _, _ => rfl
  | u :: us, z :: zs, i, h => by
    cases h with
    | cons r t =>
      obtain ⟨tk, rfl⟩ := r
      show (if true = true then (tupItems (fun _ => true) (i + 1) us).map (Sum.inr z.cps.toList :: ·) else none) = _
      rw [if_pos rfl, items_key (i + 1) t]
      rfl
section
variable {X : Cx}
def rSortTT (K : PySem.W.Frag) : List V → Hp → VK → Prop := fun xs H Q => ∃ (a : Addr) (L : List (Addr × List Str)), xs = [.ref a] ∧ SqL K H a (L.map fun x => V.ref x.1) ∧ (∀ x ∈ L, SqT K H x.1 (x.2.map V.str) ∧ x.2 ≠ []) ∧ L.length ≤ 1000 ∧
  ∀ (ps : List (Addr × List Str)) (p : Addr), ps.Perm L → (ps.map (·.2)).Pairwise RLe → H p = none → Q (.ref p) (upd H p (.lst (ps.map fun x => V.ref x.1)))
theorem call_sortedTT : CallR X (.builtin "sorted") (rSortTT X.K) := by
  intro pins s σ H xs us Q I r h
  obtain ⟨a, L, rfl, hs, hL, hl, q⟩ := h
  obtain ⟨its, rv, hlst, _⟩ := I.list hs
  rw [Vals.ref1 r]
  have eits : its = L.map fun x => Value.ref x.1 := by
    have go : ∀ (L : List (Addr × List Str)) (us : List Value), Vals (L.map fun x => V.ref x.1) us → us = L.map fun x => Value.ref x.1 := by
      intro L
      induction L with
      | nil => intro us h; cases h; rfl
      | cons x L ih =>
        intro us h
        cases h with
        | cons r t => rw [show _ = Value.ref x.1 from r, ih _ t]; rfl
    exact go L its rv
  have key : ∀ x ∈ L, G.tupKeyC s.heap (fun _ => true) (.ref x.1) = some (rowKey x.2) ∧ ∃ f, TupOf s.heap (fun _ => true) (.ref x.1) f := fun x hx => by
    obtain ⟨ht, hne⟩ := hL x hx
    obtain ⟨us, ru, pl, hz⟩ := I.tuple ht
    obtain ⟨o, ho, hc, n, hd⟩ := pl
    have hk := items_key 0 ru
    refine ⟨?_, ?_⟩
    · unfold G.tupKeyC
      have : G.isTupObj s.heap (.ref x.1) = true := by
        simp only [G.isTupObj, ho, hc]
        exact beq_self_eq_true "tuple"
      rw [if_pos this]
      simp only [tupKey, ho, hd]
      exact hk
    · match us, x.2, ru, hne with
      | [], [], _, hne => exact absurd rfl hne
      | u :: us, z :: zs, .cons r0 t0, _ =>
        obtain ⟨tk, rfl⟩ := r0
        exact ⟨_, x.1, o, _, n, rfl, ho, hc, hd, rfl, fun h => (Bool.noConfusion h), fun _ => ⟨z, tk, rfl⟩⟩
  have tups : ∀ L' : List (Addr × List Str), (∀ x ∈ L', x ∈ L) → ∃ fs, TupsOf s.heap (fun _ => true) (L'.map fun x => Value.ref x.1) fs := by
    intro L'
    induction L' with
    | nil => exact fun _ => ⟨[], .nil⟩
    | cons x L' ih =>
      intro h
      obtain ⟨f, hf⟩ := (key x (h x List.mem_cons_self)).2
      obtain ⟨fs, hfs⟩ := ih fun y hy => h y (List.mem_cons_of_mem _ hy)
      exact ⟨f :: fs, .cons hf hfs⟩
  obtain ⟨fs, hfs⟩ := tups L fun _ h => h
  have hlen : its.length = L.length := by rw [eits, List.length_map]
  refine G.sorted_tups (shape := fun _ => true) (vs := its) (fs := fs) hlst.isList (by rw [eits]; exact hfs) (fun v hv => ?_) (by rw [hlen]; exact Nat.le_trans hl (by decide)) fun st' hp hso _ => ?_
  · rw [eits] at hv
    obtain ⟨x, hx, rfl⟩ := List.mem_map.mp hv
    exact ⟨_, (key x hx).1⟩
  -- what stands there
  have hl2 : (arrOf st').toList.Perm (its.zip its) := by rw [← pairsOf_toList]; exact Array.perm_iff_toList_perm.mp hp
  have hmem : ∀ p, p ∈ (arrOf st').toList → p.1 = p.2 ∧ p.1 ∈ its := fun p hp' => mem_zip_self (hl2.mem_iff.mp hp')
  have e1 : ((arrOf st').toList.map (·.1)).Perm its := by
    have := hl2.map (·.1)
    rwa [show (its.zip its).map (·.1) = its from List.map_fst_zip (Nat.le_refl _)] at this
  rw [eits] at e1
  obtain ⟨ps, hps, eps⟩ := perm_map_inv e1
  have e2 : ((arrOf st').map (·.2)).toList = ps.map fun x => Value.ref x.1 := by
    rw [Array.toList_map, ← eps]
    exact List.map_congr_left fun p hp' => (hmem p hp').1.symm
  have hsz : (arrOf st').size = ps.length := by
    have := congrArg List.length eps
    rwa [List.length_map, List.length_map, Array.length_toList] at this
  have hpz : (pairsOf its).size = ps.length := by rw [pairsOf_size, hlen, hps.length_eq]
  have kk : ∀ i (hi : i < ps.length), KK (G.tupKindC s.heap fun _ => true) (arrOf st') i = rowKey ps[i].2 := fun i hi => by
    unfold KK
    have hi2 : i < (arrOf st').size := by omega
    rw [Array.getElem?_eq_getElem hi2]
    have e3 : ((arrOf st')[i]).1 = .ref ps[i].1 := by
      have := congrArg (fun l : List Value => l[i]?) eps
      rw [List.getElem?_map, List.getElem?_map, List.getElem?_eq_getElem hi, List.getElem?_eq_getElem (by rw [Array.length_toList]; exact hi2)] at this
      exact Option.some.inj this
    dsimp only
    rw [e3]
    show (G.tupKeyC s.heap (fun _ => true) (.ref ps[i].1)).getD _ = _
    rw [(key ps[i] (hps.mem_iff.mp (List.getElem_mem hi))).1]
    rfl
  have hpw : (ps.map (·.2)).Pairwise RLe := by
    rw [List.pairwise_iff_getElem]
    intro i j hi hj hij
    rw [List.length_map] at hi hj
    have := hso i j (Nat.le_of_lt hij) (by rw [hpz]; exact hj)
    rw [kk i hi, kk j hj] at this
    rw [List.getElem_map, List.getElem_map]
    exact this
  obtain ⟨ep, he'⟩ := PyProof.Rows.sortedAll_at s.heap its ((arrOf st').map (·.2))
  have hlen2 : (ps.map fun x => V.ref x.1).length ≤ sizeLine := by
    rw [List.length_map, hps.length_eq]
    exact Nat.le_trans hl (by decide)
  have vals : ∀ ps : List (Addr × List Str), Vals (ps.map fun x => V.ref x.1) (ps.map fun x => Value.ref x.1) := by
    intro ps
    induction ps with
    | nil => exact .nil
    | cons x ps ih => exact .cons rfl ih
  exact ⟨.ref _, upd H (s.heap.objs.size + 1) (.lst (ps.map fun x => V.ref x.1)), I.laid (t' := s.toks) (fun _ _ => PyProof.Rows.sortedAll_old) (Nat.le_succ _) ⟨hlen2, ((arrOf st').map (·.2)).toList, ep, by rw [e2]; exact vals ps, by rw [Array.toArray_toList]; exact he'⟩, rfl, q ps _ hps hpw (I.hok.fresh (Nat.le_succ _))⟩
end
end SortB
namespace Sj
open PySem L2 Sup StK Own Shw Exg Grd KepE
open NdefX (NF NScope ncx envF startF nscope_by)
open C8 (pss_cut tCut)
/-! wrong_blocks, where all is well -/
abbrev sWb : Stmt := top 47
abbrev nWb : List Str := ["frame", "blocks", "names", "block", "name"]
theorem scWb : FnScope nWb ["frame", "blocks"] (defScope sWb) := ⟨rfl, rfl, rfl, by decide +kernel, rfl, by decide +kernel, by decide +kernel⟩
def rGt0 : R2 := rI0 fun i j => .bl (decide (j < i))
theorem op_gt0 {X : Cx} : OpR X (compareOp .Gt) rGt0 := op_gt
def teB1 (K : PySem.W.Frag) : TE := tAndV (tCB (rIsiT K) (tCons (tVar 3) (tCons (tTup (tCons (tC (.ty "list")) (tCons (tC (.ty "tuple")) tNil))) tNil))) (tOp rGt0 (tCB (lenR K) (tCons (tVar 3) tNil)) (tC (.int 0)))
def teB3 (K : PySem.W.Frag) (ks : Kinds) (CF : Addr) : TE := tCall (spIsM K ks CF) [] E0 (tCons (tVar 0) (tCons (tVar 4) tNil))
def teB5 (K : PySem.W.Frag) : TE := tAndV (tOp (rIn K false) (tC (.str "ground")) (tVar 3)) (tOp (rIn K false) (tC (.str "power")) (tVar 3))
/-- blocks of texts, each a list or a tuple -/
def BlkAt (H : Hp) (Bl : List (Addr × List Str)) : Prop := ∀ x ∈ Bl, (H x.1 = some (.lst (strv x.2)) ∨ H x.1 = some (.tup (strv x.2))) ∧ x.2 ≠ []
theorem BlkAt.same {H H' : Hp} {Bl : List (Addr × List Str)} (h : BlkAt H Bl) (s : Same H H') : BlkAt H' Bl := fun x hx => ⟨(h x hx).1.imp (s _ _) (s _ _), (h x hx).2⟩
structure WbT (P : Program) (w : World) (K : PySem.W.Frag) (mg : Str → Option Value) (base : Heap) (ks : Kinds) (CF : Addr) : Prop where
  ism : ∃ f fd, mg "is_member" = some (.ref f) ∧ PySem.W.keepIn K (.ref f) = true ∧ Binds K fd ["frame", "value"] [] ∧ FnOk P w K mg base CX0 3 f fd ["frame", "value"] (spIsM K ks CF)
  isi : mg "isinstance" = none
  all : mg "all" = none
  any : mg "any" = none
  len : mg "len" = none
  set : mg "set" = none
  list : mg "list" = none
  tuple : mg "tuple" = none
  kl : PySem.W.kitAny K (.type "list") [.type "list", .type "tuple"] = some true
  kt : PySem.W.kitAny K (.type "tuple") [.type "list", .type "tuple"] = some true
def spWb (K : PySem.W.Frag) (ks : Kinds) (CF : Addr) : Sp := fun vs H Q _ => ∃ (f t : Addr) (d : FrD) (Bl : List (Addr × List Str)), vs = [.ref f, .ref t] ∧ FrIs ks CF H f d ∧ SqT K H t (Bl.map fun x => V.ref x.1) ∧ BlkAt H Bl ∧
  (∀ z ∈ allN Bl, z ∈ membZ d) ∧ (allN Bl).Nodup ∧ (allN Bl).length ≤ 60 ∧ (∀ x ∈ Bl, ¬ (("ground" : Str) ∈ x.2 ∧ ("power" : Str) ∈ x.2)) ∧ ∀ H', Same H H' → Q .non H'
section
variable {P : Program} {w : World} {K : PySem.W.Frag} {mg : Str → Option Value} {base : Heap}
theorem ok_wb {f CF : Addr} {fd : FuncData} {ks : Kinds} (F : Fun K "wrong_blocks" "wrong_blocks" sWb f fd) (T : WbT P w K mg base ks CF) : FnOk P w K mg base CX0 4 f fd ["frame", "blocks"] (spWb K ks CF) := by
  obtain ⟨fM, fdM, mM, kM, bM, GM⟩ := T.ism
  refine F.ok scWb (fun vs H Q E h => ?_) (fun cdv A outer s H vs Q E hr h => ?_)
  · obtain ⟨f, t, d, Bl, rfl, _⟩ := h
    rfl
  · obtain ⟨f, t, d, Bl, rfl, hF, ht, hB, hm, hnd, hl, hgp, k⟩ := h
    refine ⟨_, pss_cons (ps_if (pt_not (pt_val (pe_callB (cr_all rfl) (by rfl) T.all (by decide +kernel) (pa_cons (pe_lc (te := teB1 K) (tt := tYes) (own := [("block", 3)]) (g := gName 3) rfl scWb.nd (pi_tup (pv 1)) (blkOk_by (N := nWb) (sc := defScope sWb) (by decide +kernel))
          (fun _ _ _ _ _ => pg_name (i := 3) scWb.nd rfl (Or.inl rfl)) (fun _ _ _ _ _ => pts_nil) (fun _ _ _ _ _ => pe_and (pe_callB call_isiT (by rfl) T.isi (by decide +kernel) (pa_cons (pv 3) (pa_cons (pe_tup (pa_cons (pe_bltn (by rfl) T.list (by decide +kernel) (v := .ty "list") rfl) (pa_cons (pe_bltn (by rfl) T.tuple (by decide +kernel) (v := .ty "tuple") rfl) pa_nil))) pa_nil)))
            (pe_one (pe_cmpR op_gt0 (pe_callB call_lenK (by rfl) T.len PySem.boot_len (pa_cons (pv 3) pa_nil)) pe_int (nomark _))))) pa_nil)))) (pss_one (ps_ret pe_str)) pss_nil)
      (pss_cons (ps_setLc2 (i := 2) (wi1 := iSeq K (tVar 3)) (te := tVar 4) (tt := tYes) (tt1 := tYes) (own := [("block", 3), ("name", 4)]) (vs1 := [4]) (g := gName 3) (g1 := gName 4) rfl scWb.nd rfl rfl (sw_true rfl rfl rfl (by decide +kernel)) (pi_tup (pv 1)) (blkOk_by (N := nWb) (sc := defScope sWb) (by decide +kernel)) (by decide)
          (fun _ _ _ _ _ => pg_name (i := 3) scWb.nd rfl (Or.inl rfl)) (fun _ _ _ _ _ => pts_nil) (fun _ _ _ _ _ => pi_seq (pv 3)) (fun _ _ _ _ _ => pg_name (i := 4) scWb.nd rfl (Or.inl rfl)) (fun _ _ _ _ _ => pts_nil) (fun _ _ _ _ _ => pv 4))
      (pss_cons (ps_if (pt_not (pt_val (pe_callB (cr_all rfl) (by rfl) T.all (by decide +kernel) (pa_cons (pe_lc (te := teB3 K ks CF) (tt := tYes) (own := [("name", 4)]) (g := gName 4) rfl scWb.nd (pi_list (pv 2)) (blkOk_by (N := nWb) (sc := defScope sWb) (by decide +kernel))
          (fun _ _ _ _ _ => pg_name (i := 4) scWb.nd rfl (Or.inl rfl)) (fun _ _ _ _ _ => pts_nil) (fun _ _ _ _ _ => pe_call GM hr rfl mM kM bM .nil pass0 (pa_cons (pv 0) (pa_cons (pv 4) pa_nil)))) pa_nil)))) (pss_one (ps_ret pe_str)) pss_nil)
      (pss_cons (ps_if (pt_cmpR op_lt (pe_callB (SetS.call_lenX) (by rfl) T.len PySem.boot_len (pa_cons (pe_callTy (T := "set") (SetS.call_setL rfl) (by rfl) T.set (by decide +kernel) (pa_cons (pv 2) pa_nil)) pa_nil)) (pe_callB call_len_seq (by rfl) T.len PySem.boot_len (pa_cons (pv 2) pa_nil)) (nomark _)) (pss_one (ps_ret pe_str)) pss_nil)
      (pss_cons (ps_if (pt_val (pe_callB (cr_any rfl) (by rfl) T.any (by decide +kernel) (pa_cons (pe_lc (te := teB5 K) (tt := tYes) (own := [("block", 3)]) (g := gName 3) rfl scWb.nd (pi_tup (pv 1)) (blkOk_by (N := nWb) (sc := defScope sWb) (by decide +kernel))
          (fun _ _ _ _ _ => pg_name (i := 3) scWb.nd rfl (Or.inl rfl)) (fun _ _ _ _ _ => pts_nil) (fun _ _ _ _ _ => pe_and (pe_cmpR op_in_seq pe_str (pv 3) (by rfl)) (pe_one (pe_cmpR op_in_seq pe_str (pv 3) (by rfl))))) pa_nil))) (pss_one (ps_ret pe_str)) pss_nil)
      (pss_one (ps_ret pe_non)))))), ?_⟩
    have hBl : (Bl.map fun x => V.ref x.1).length = Bl.length := List.length_map _
    have at_ : ∀ {i : Nat} {x : V}, (Bl.map fun x => V.ref x.1)[i]? = some x → ∃ y ∈ Bl, Bl[i]? = some y ∧ x = .ref y.1 := fun {i x} h => by
      rw [List.getElem?_map] at h
      cases e : Bl[i]? with
      | none => rw [e] at h; cases h
      | some y => rw [e] at h; exact ⟨y, List.mem_of_getElem? e, rfl, (Option.some.inj h).symm⟩
    have bl60 : Bl.length ≤ 60 := by
      have go : ∀ Bl : List (Addr × List Str), (∀ x ∈ Bl, x.2 ≠ []) → Bl.length ≤ (allN Bl).length := by
        intro Bl
        induction Bl with
        | nil => exact fun _ => Nat.le_refl _
        | cons x Bl ih =>
          intro h
          have h1 := ih fun y hy => h y (List.mem_cons_of_mem _ hy)
          have h2 : 0 < x.2.length := List.length_pos_iff.mpr (h x List.mem_cons_self)
          show Bl.length + 1 ≤ (x.2 ++ allN Bl).length
          rw [List.length_append]
          omega
      exact Nat.le_trans (go Bl fun x hx => (hB x hx).2) hl
    have bool_add : ∀ (n : Nat) (b : Bool), (List.replicate (n + 1) b).map V.bl = (List.replicate n b).map V.bl ++ [.bl b] := fun n b => by
      rw [List.replicate_succ', List.map_append]
      rfl
    -- each is a list or a tuple, and not empty
    refine ⟨_, rfl, t, rfl, ⟨_, ht⟩, fun D hD => ?_⟩
    refine lc_it (walk_tup (K := K) (a := t) (xs := Bl.map fun x => V.ref x.1)) (fun i H' => Same H H' ∧ H' D = some (.lst ((List.replicate i true).map V.bl))) ⟨same_at hD, upd_same⟩ (fun i H' _ p => SqT.ext ht p.1) ?_ ?_
    · rintro i x Ho Ha hi ⟨sa, da⟩ ⟨rfl, hx⟩
      obtain ⟨y, hy, ey, rfl⟩ := at_ hx
      rw [hBl] at hi
      refine ⟨rfl, ?_⟩
      unfold tYes
      dsimp only
      rw [if_pos rfl]
      refine ⟨_, rfl, by show 2 ≤ sizeLine; decide, fun p hp => ?_⟩
      have sp := same_at (o := .tup [V.ty "list", .ty "tuple"]) hp
      obtain ⟨hq, hne⟩ := (hB.same (sa.trans sp)) y hy
      have hln : SqL K (upd Ha p (.tup [V.ty "list", .ty "tuple"])) y.1 (strv y.2) ∨ SqT K (upd Ha p (.tup [V.ty "list", .ty "tuple"])) y.1 (strv y.2) := hq.imp SqL.of SqT.of
      have hty : ∃ tt, TyX K (upd Ha p (.tup [V.ty "list", .ty "tuple"])) (.ref y.1) (.type tt) ∧ PySem.W.kitAny K (.type tt) [.type "list", .type "tuple"] = some true := by
        rcases hq with q | q
        · exact ⟨"list", .base (.lst q), T.kl⟩
        · exact ⟨"tuple", .base (.tup q), T.kt⟩
      obtain ⟨tt, ty, kt⟩ := hty
      refine ⟨.ref y.1, p, [.ty "list", .ty "tuple"], .type tt, [.type "list", .type "tuple"], true, rfl, upd_same, .cons (.ty _) (.cons (.ty _) .nil), ty, kt, _, rfl, iteT ?_⟩
      refine ⟨_, rfl, y.1, strv y.2, rfl, hln, _, _, rfl, rfl, ?_⟩
      have hpos : (0 : Int) < ((strv y.2).length : Int) := by
        have : 0 < y.2.length := List.length_pos_iff.mpr hne
        have e : (strv y.2).length = y.2.length := List.length_map _
        omega
      refine ⟨_, sp _ _ da, ?_, fun c o e => ?_, ?_⟩
      · rw [List.length_map, List.length_replicate]
        exact Nat.lt_of_lt_of_le (show i < 60 by omega) (by decide)
      · rw [upd_ne (ne_of_none e hD)]
        exact sp _ _ (sa _ _ e)
      · rw [upd_same, bool_add]
        show some (HO.lst (_ ++ [V.bl (decide ((0 : Int) < ((strv y.2).length : Int)))])) = _
        rw [decide_eq_true hpos]
    rintro H1 ⟨s1, d1⟩
    refine ⟨D, _, rfl, SqL.of d1, ?_⟩
    have allT : ∀ n : Nat, (List.replicate n true).all id = true := fun n => List.all_eq_true.mpr fun b hb => List.eq_of_mem_replicate hb
    rw [allT]
    refine ⟨_, rfl, iteF ?_⟩
    -- all names
    have ht1 := SqT.ext ht s1
    refine ⟨_, rfl, t, rfl, ⟨_, ht1⟩, fun D2 hD2 => ?_⟩
    refine lc2_it (walk_tup (K := K) (a := t) (xs := Bl.map fun x => V.ref x.1)) (fun i H' => Same H1 H' ∧ H' D2 = some (.lst (strv (allN (Bl.take i))))) ⟨same_at hD2, upd_same⟩ (fun i H' _ p => SqT.ext ht1 p.1) ?_ ?_
    · rintro i x Ho Ha hi ⟨sa, da⟩ ⟨rfl, hx⟩
      obtain ⟨y, hy, ey, rfl⟩ := at_ hx
      refine ⟨rfl, ?_⟩
      unfold tYes
      dsimp only
      rw [if_pos rfl]
      have hle : (allN (Bl.take i) ++ y.2).length ≤ 60 := by
        rw [← allN_snoc ey]
        refine Nat.le_trans ?_ hl
        have e : allN Bl = allN (Bl.take (i + 1)) ++ allN (Bl.drop (i + 1)) := by
          unfold allN
          rw [← List.flatMap_append, List.take_append_drop]
        rw [e, List.length_append]
        omega
      rw [List.length_append] at hle
      have hyl : (strv y.2).length = y.2.length := List.length_map _
      have turn : ∀ (j : Nat) (x : V) (Hc Hd : Hp), j < (strv y.2).length → (Same H1 Hc ∧ Hc D2 = some (.lst (strv (allN (Bl.take i) ++ y.2.take j)))) → (Hd = Hc ∧ (strv y.2)[j]? = some x) →
          gName 4 x (wipe ([some (V.ref f), some (.ref t), none, some (.ref y.1), none] : L2.St) [4]) Hd fun σ3 H5 => wipe σ3 [4] = wipe ([some (V.ref f), some (.ref t), none, some (.ref y.1), none] : L2.St) [4] ∧ tYes σ3 H5 fun b H6 =>
            if b = true then tVar 4 σ3 H6 fun z H7 => ∃ acc, H7 D2 = some (.lst acc) ∧ acc.length < sizeLine ∧ (Same H1 (upd H7 D2 (.lst (acc ++ [z]))) ∧ upd H7 D2 (.lst (acc ++ [z])) D2 = some (.lst (strv (allN (Bl.take i) ++ y.2.take (j + 1))))) else (Same H1 H6 ∧ H6 D2 = some (.lst (strv (allN (Bl.take i) ++ y.2.take (j + 1))))) := by
        rintro j x Hc Hd hj ⟨sc, dc⟩ ⟨rfl, hxj⟩
        rw [hyl] at hj
        have exj : (strv y.2)[j]? = some (.str y.2[j]) := by show (y.2.map V.str)[j]? = _; rw [List.getElem?_map, List.getElem?_eq_getElem hj]; rfl
        rw [exj] at hxj
        obtain rfl := Option.some.inj hxj
        refine ⟨rfl, ?_⟩
        unfold tYes
        dsimp only
        rw [if_pos rfl]
        refine ⟨_, rfl, _, dc, ?_, fun c o e => ?_, ?_⟩
        · unfold strv
          rw [List.length_map, List.length_append, List.length_take]
          exact Nat.lt_of_le_of_lt (show _ ≤ 60 by omega) (by decide)
        · rw [upd_ne (ne_of_none e hD2)]
          exact sc _ _ e
        · rw [upd_same, List.take_add_one, List.getElem?_eq_getElem hj, Option.toList_some, ← List.append_assoc]
          show _ = some (HO.lst (List.map V.str _))
          rw [List.map_append (l₁ := allN (Bl.take i) ++ y.2.take j)]
          rfl
      have d0 : Ha D2 = some (.lst (strv (allN (Bl.take i) ++ y.2.take 0))) := by
        rw [List.take_zero, List.append_nil]
        exact da
      have fin : ∀ Hc, (Same H1 Hc ∧ Hc D2 = some (.lst (strv (allN (Bl.take i) ++ y.2.take (strv y.2).length)))) → (Same H1 Hc ∧ Hc D2 = some (.lst (strv (allN (Bl.take (i + 1)))))) := fun Hc h => ⟨h.1, by
        have := h.2
        rw [hyl, List.take_length, ← allN_snoc ey] at this
        exact this⟩
      rcases (hB.same s1 y hy).1 with q | q
      · exact ⟨_, rfl, y.1, rfl, .inl ⟨⟨_, SqL.of (sa _ _ q)⟩, in_it (walk_list (K := K) (a := y.1) (xs := strv y.2)) (fun j H' => Same H1 H' ∧ H' D2 = some (.lst (strv (allN (Bl.take i) ++ y.2.take j)))) ⟨sa, d0⟩ (fun j H' _ p => SqL.of (p.1 _ _ q)) turn fin⟩⟩
      · exact ⟨_, rfl, y.1, rfl, .inr ⟨⟨_, SqT.of (sa _ _ q)⟩, in_it (walk_tup (K := K) (a := y.1) (xs := strv y.2)) (fun j H' => Same H1 H' ∧ H' D2 = some (.lst (strv (allN (Bl.take i) ++ y.2.take j)))) ⟨sa, d0⟩ (fun j H' _ p => SqT.of (p.1 _ _ q)) turn fin⟩⟩
    rintro H2 ⟨s2, d2⟩
    rw [hBl, List.take_length] at d2
    have hF2 := hF.same (s1.trans s2)
    have hB2 := (hB.same s1).same s2
    have ht2 := SqT.ext ht1 s2
    have nl : (strv (allN Bl)).length = (allN Bl).length := List.length_map _
    refine ⟨_, rfl, D2, rfl, ⟨_, SqL.of d2⟩, fun D3 hD3 => ?_⟩
    refine lc_it (walk_list (K := K) (a := D2) (xs := strv (allN Bl))) (fun i H' => Same H2 H' ∧ H' D3 = some (.lst ((List.replicate i true).map V.bl))) ⟨same_at hD3, upd_same⟩ (fun i H' _ p => SqL.ext (SqL.of d2) p.1) ?_ ?_
    · rintro i x Ho Ha hi ⟨sa, da⟩ ⟨rfl, hx⟩
      rw [nl] at hi
      have ex : (strv (allN Bl))[i]? = some (.str (allN Bl)[i]) := by show ((allN Bl).map V.str)[i]? = _; rw [List.getElem?_map, List.getElem?_eq_getElem hi]; rfl
      rw [ex] at hx
      obtain rfl := Option.some.inj hx
      refine ⟨rfl, ?_⟩
      unfold tYes
      dsimp only
      rw [if_pos rfl]
      refine ⟨_, rfl, _, rfl, f, d, _, rfl, hF2.same sa, .inl ⟨_, rfl, fun H' s' => ?_⟩⟩
      rw [decide_eq_true (hm _ (List.getElem_mem hi))]
      refine ⟨_, s' _ _ da, ?_, fun c o e => ?_, ?_⟩
      · rw [List.length_map, List.length_replicate]
        exact Nat.lt_of_lt_of_le (show i < 60 by omega) (by decide)
      · rw [upd_ne (ne_of_none e hD3)]
        exact s' _ _ (sa _ _ e)
      · rw [upd_same, bool_add]
    rintro H3 ⟨s3, d3⟩
    refine ⟨D3, _, rfl, SqL.of d3, ?_⟩
    rw [allT]
    refine ⟨_, rfl, iteF ?_⟩
    -- no name twice
    have d2b := s3 _ _ d2
    refine ⟨_, rfl, D2, allN Bl, rfl, SqL.of d2b, Nat.lt_of_le_of_lt hl (by decide), fun p hp => ?_⟩
    have sp := same_at (o := SetS.SetX w p (SetS.setL (allN Bl))) hp
    refine ⟨p, SetS.setL (allN Bl), rfl, upd_same, _, rfl, D2, strv (allN Bl), rfl, .inl (SqL.of (sp _ _ d2b)), ?_⟩
    refine ⟨_, _, rfl, rfl, ?_⟩
    have e4 : decide (((SetS.setL (allN Bl)).length : Int) < ((strv (allN Bl)).length : Int)) = false := by
      rw [SetS.setL_same hnd, nl]
      exact decide_eq_false (Int.lt_irrefl _)
    refine ⟨false, by show V.bl (decide (((SetS.setL (allN Bl)).length : Int) < ((strv (allN Bl)).length : Int))) = _; rw [e4], iteF ?_⟩
    -- no block of both
    have s4 := s3.trans sp
    have ht4 := SqT.ext ht2 s4
    refine ⟨_, rfl, t, rfl, ⟨_, ht4⟩, fun D5 hD5 => ?_⟩
    refine lc_it (walk_tup (K := K) (a := t) (xs := Bl.map fun x => V.ref x.1)) (fun i H' => Same (upd H3 p (SetS.SetX w p (SetS.setL (allN Bl)))) H' ∧ H' D5 = some (.lst ((List.replicate i false).map V.bl))) ⟨same_at hD5, upd_same⟩ (fun i H' _ p => SqT.ext ht4 p.1) ?_ ?_
    · rintro i x Ho Ha hi ⟨sa, da⟩ ⟨rfl, hx⟩
      obtain ⟨y, hy, ey, rfl⟩ := at_ hx
      rw [hBl] at hi
      refine ⟨rfl, ?_⟩
      unfold tYes
      dsimp only
      rw [if_pos rfl]
      have last : ∀ {b : Bool}, b = false → ∃ acc, Ha D5 = some (.lst acc) ∧ acc.length < sizeLine ∧ (Same (upd H3 p (SetS.SetX w p (SetS.setL (allN Bl)))) (upd Ha D5 (.lst (acc ++ [.bl b]))) ∧ upd Ha D5 (.lst (acc ++ [.bl b])) D5 = some (.lst ((List.replicate (i + 1) false).map V.bl))) := by
        rintro b rfl
        refine ⟨_, da, ?_, fun c o e => ?_, ?_⟩
        · rw [List.length_map, List.length_replicate]
          exact Nat.lt_of_lt_of_le (show i < 60 by omega) (by decide)
        · rw [upd_ne (ne_of_none e hD5)]
          exact sa _ _ e
        · rw [upd_same, bool_add]
      have hq := ((hB2.same s4).same sa y hy).1
      have hgy := hgp y hy
      have both : ∀ z : Str, inV (.str z) (strv y.2) = decide (z ∈ y.2) := inV_strs y.2
      have hsq : SqL K Ha y.1 (strv y.2) ∨ SqT K Ha y.1 (strv y.2) := hq.imp SqL.of SqT.of
      by_cases hg : ("ground" : Str) ∈ y.2
      · refine ⟨_, rfl, y.1, strv y.2, rfl, hsq, rfl, flat_strs _, true, ?_, iteT ⟨_, rfl, y.1, strv y.2, rfl, hsq, rfl, flat_strs _, last ?_⟩⟩
        · show V.bl (inV _ _) = _
          rw [both, decide_eq_true hg]
        · show inV _ _ = _
          rw [both]
          exact decide_eq_false fun q => hgy ⟨hg, q⟩
      · refine ⟨_, rfl, y.1, strv y.2, rfl, hsq, rfl, flat_strs _, false, ?_, iteF (last rfl)⟩
        show V.bl (inV _ _) = _
        rw [both, decide_eq_false hg]
    rintro H5 ⟨s5, d5⟩
    refine ⟨D5, _, rfl, SqL.of d5, ?_⟩
    have anyF : ∀ n : Nat, (List.replicate n false).any id = false := fun n => List.any_eq_false.mpr fun b hb => by rw [List.eq_of_mem_replicate hb]; exact Bool.false_ne_true
    rw [anyF]
    refine ⟨_, rfl, iteF ?_⟩
    exact k _ ((((s1.trans s2).trans s4)).trans s5)
end
end Sj
/-! {k: v for x in xs if .. for y in ys if ..} -/
namespace DcTwo
open PySem PySem.Spec PyProof.Rows L2
/-- one turn of clause n of E: body where the tests pass, and the loop again -/
def turnC (E : Expr) (n : Nat) (ip : Pos) (tg : Expr) (ifs : List Expr) (body : Sem Fin) (it acc : Value) (env : Env) : Sem Fin := do
  standAt ip
  match ← pyNext it with
  | none => pure (.done .next)
  | some v =>
    letOwnedTupleGo tg it v
    assign tg env v
    let mut ok := true
    for c in ifs do
      if ok then ok ← isTrue c env (eval c env)
    if ok then body else again (.compLoop E n it acc env)
def bodyOut (E i1 : Expr) (it acc : Value) (env : Env) : Sem Fin := do
  let x ← eval i1 env
  standAt i1.pos
  let x ← foldedSetIterable i1 env x
  let _ ← runOwn (.compStart E 1 (← holding [x] (pyIter x)) acc env) env
  again (.compLoop E 0 it acc env)
def storeIn (kx vx : Expr) (D : Addr) (env : Env) : Sem Unit := do
  let kv ← eval kx env
  let vv ← holding [kv] (eval vx env)
  standAt { kx.pos with endLine := vx.pos.endLine, endCol := vx.pos.endCol }
  holding [kv, vv] (dictSet D kv vv)
def bodyIn (E kx vx : Expr) (it : Value) (D : Addr) (env : Env) : Sem Fin := do
  storeIn kx vx D env
  again (.compLoop E 1 it (.ref D) env)
theorem out_eq (kx vx t0 i0 t1 i1 : Expr) (ifs0 ifs1 : List Expr) (scope : Scope) (pos : Pos) (it : Value) (D : Addr) (env : Env) :
    compTurn (.DictComp kx vx [⟨t0, i0, ifs0, 0⟩, ⟨t1, i1, ifs1, 0⟩] scope pos) 0 it (.ref D) env = turnC (.DictComp kx vx [⟨t0, i0, ifs0, 0⟩, ⟨t1, i1, ifs1, 0⟩] scope pos) 0 i0.pos t0 ifs0 (bodyOut (.DictComp kx vx [⟨t0, i0, ifs0, 0⟩, ⟨t1, i1, ifs1, 0⟩] scope pos) i1 it (.ref D) env) it (.ref D) env := by
  rfl
theorem in_eq (kx vx t0 i0 t1 i1 : Expr) (ifs0 ifs1 : List Expr) (scope : Scope) (pos : Pos) (it : Value) (D : Addr) (env : Env) :
    compTurn (.DictComp kx vx [⟨t0, i0, ifs0, 0⟩, ⟨t1, i1, ifs1, 0⟩] scope pos) 1 it (.ref D) env = turnC (.DictComp kx vx [⟨t0, i0, ifs0, 0⟩, ⟨t1, i1, ifs1, 0⟩] scope pos) 1 i1.pos t1 ifs1 (bodyIn (.DictComp kx vx [⟨t0, i0, ifs0, 0⟩, ⟨t1, i1, ifs1, 0⟩] scope pos) kx vx it D env) it (.ref D) env := by
  rfl
/-- a clause's turns -/
def turns (J : It) (g : TG) (tt : TT) (vs : List Nat) (σ : L2.St) (tb : L2.St → Hp → (Hp → Prop) → Prop) (W : Nat → Nat → Hp → Prop) (Qd : Hp → Prop) : Prop :=
  ∀ i m H, W i m H → (J.stop i H ∧ Qd H) ∨ (J.go i H ∧ ∃ Nx : Hp → Prop, (∀ H', Nx H' → ∃ m', m' < m ∧ W (i + 1) m' H') ∧ ∀ x H', J.yld i H x H' → g x (wipe σ vs) H' fun σ2 H2 => wipe σ2 vs = wipe σ vs ∧ tt σ2 H2 fun b H3 => if b = true then tb σ2 H3 Nx else Nx H3)
section
variable {Y : Cx}
theorem loop_gen {kx vx : Expr} {gens : List Comprehension} {scope : Scope} {pos : Pos} {E : Expr} (eE : E = .DictComp kx vx gens scope pos) {n : Nat} {ip : Pos} {tg : Expr} {ifs : List Expr} {body : Sem Fin} {it D : Addr} {J : It} {g : TG} {tt : TT} {vs : List Nat} {fp : List Addr} {tn : Nat → Heap → Prop} {σ : L2.St} {tb : L2.St → Hp → (Hp → Prop) → Prop} {W : Nat → Nat → Hp → Prop} {Qd : Hp → Prop} {R : Result → Shared → Prop} {pins : List (Addr × Obj)}
    (ct : compTurn E n (.ref it) (.ref D) Y.env = turnC E n ip tg ifs body (.ref it) (.ref D) Y.env) (hc : Y.calm = true) (T : Turn Y.prog Y.w Y.K tg J fp it tn) (hg : PG Y tg g) (ht : PTs Y ifs tt) (hl : turns J g tt vs σ tb W Qd)
    (xe : ∀ e s', Y.xe e s' → notedBy (model Y.prog Y.w) Y.A Y.env (fun e s' => R (.error e) s') e s')
    (hb : ∀ (ps : List (Addr × Obj)) (s : Shared) (σ2 : L2.St) (H : Hp) (Nx : Hp → Prop), Inv Y ps σ2 H s → tb σ2 H Nx → wpAny (model Y.prog Y.w) Y.A body (fun r s' => r = .again (.compLoop E n (.ref it) (.ref D) Y.env) ∧ ∃ σ' H', Inv Y ps σ' H' s' ∧ σ'.length = σ2.length ∧ (∀ (j : Nat) v, (wipe σ2 vs)[j]? = some (some v) → σ'[j]? = some (some v)) ∧ Nx H') Y.xe s)
    (stat : ∀ (σ' : L2.St) (H' : Hp) (s' : Shared), Inv Y pins σ' H' s' → (∀ b ∈ fp, H' b = none) → ∀ b ∈ fp, FpOk Y pins H' b)
    (fin : ∀ H' s', Inv Y pins (wipe σ vs) H' s' → Qd H' → R (.ok .next) s')
    {i m : Nat} {H : Hp} {s : Shared} (I : Inv Y pins (wipe σ vs) H s) (st : tn i s.heap) (nf : ∀ b ∈ fp, H b = none) (hw : W i m H) :
    codeAny (model Y.prog Y.w) Y.A (.compLoop E n (.ref it) (.ref D) Y.env) R s := by
  subst eE
  refine codeAny_loop rfl (fun n s' => ∃ i H', Inv Y pins (wipe σ vs) H' s' ∧ tn i s'.heap ∧ (∀ b ∈ fp, H' b = none) ∧ W i n H') (fun k s5 hI => ?_) m ⟨i, H, I, st, nf, hw⟩
  show wpAny _ Y.A ((compTurn (.DictComp kx vx gens scope pos) n (.ref it) (.ref D) Y.env).onRaise (fun x => do noteFrame x Y.env; theTreesLotGoes x)) _ _ s5
  refine wpAny_noted ?_
  rw [ct]
  obtain ⟨i, H5, I5, st5, n5, w5⟩ := hI
  unfold turnC
  refine wpAny_bind (wpAny_standAt (wpAny_bind ?_))
  rcases hl i k H5 w5 with ⟨stop, qq⟩ | ⟨go, Nx, hNx, step⟩
  · refine thnF (T.done Y rfl rfl rfl hc i pins s5 _ H5 (fun _ _ => False) I5 (stat _ _ _ I5 n5) st5 stop) fun r s6 ⟨hr, I6⟩ => ?_
    subst hr
    exact wpAny_pure (fin H5 s6 I6 qq)
  · refine thnF (T.item Y rfl rfl rfl hc i pins s5 _ H5 (fun _ _ => False) I5 (stat _ _ _ I5 n5) st5 go) fun r s6 ⟨u, hr, h6⟩ => ?_
    subst hr
    refine wpAny_bind (thnF h6 fun _ s7 ⟨x, H7, I7, r7, y7, st7, n7⟩ => ?_)
    have I7' := I7.pinned (stat _ _ _ I7 n7) (T.obj _ _ st7)
    refine wpAny_bind (wpAny_mono (hg.run _ s7 _ H7 x u _ I7' r7 (step x H7 y7)) (fun _ s8 ⟨σ8, H8, I8, hw8, q8⟩ => ?_) xe)
    have back : ∀ {σ9 : L2.St} {s' : Shared} {H' : Hp}, Inv Y (pins ++ pinsAt fp s7.heap) σ9 H' s' → σ9.length = σ8.length → (∀ (j : Nat) v, (wipe σ8 vs)[j]? = some (some v) → σ9[j]? = some (some v)) → Nx H' → ∃ m, m < k ∧ ∃ i H', Inv Y pins (wipe σ vs) H' s' ∧ tn i s'.heap ∧ (∀ b ∈ fp, H' b = none) ∧ W i m H' := fun {σ9 s' H'} I' l9 k9 nx => by
      obtain ⟨m', hm, w'⟩ := hNx H' nx
      have held : ∀ b ∈ fp, ∀ o, s7.heap.get? b = some o → s'.heap.get? b = some o ∧ H' b = none := fun b hb o e => by
        have z := I'.pin (b, o) (List.mem_append_right _ (List.mem_append_right _ (mem_pinsAt hb e)))
        exact ⟨z.1, z.2.1⟩
      refine ⟨m', hm, i + 1, H', ?_, T.keep _ _ _ st7 fun b hb o e => (held b hb o e).1, fun b hb => ?_, w'⟩
      · refine (I'.unpinned (pins := pins)).weak (by rw [l9, ← hw8, wipe_length]) fun j v e => ?_
        rw [← hw8] at e
        exact k9 j v e
      · obtain ⟨o, e, _⟩ := T.obj _ _ st7 b hb
        exact (held b hb o e).2
    refine wpAny_bind (wpAny_mono (ht.run _ s8 σ8 H8 _ I8 q8) (fun b s9 ⟨H9, I9, q9⟩ => ?_) xe)
    cases b with
    | false =>
      simp only [Bool.false_eq_true, if_false] at q9 ⊢
      exact wpAny_pure ⟨rfl, back I9 rfl (fun j v e => (wipe_some e).1) q9⟩
    | true =>
      simp only [if_true] at q9 ⊢
      refine wpAny_mono (hb _ s9 σ8 H9 Nx I9 q9) (fun r s10 ⟨er, σ', H', I', l', k', nx⟩ => ?_) xe
      subst er
      exact ⟨rfl, back I' l' k' nx⟩
/-- the element is stored -/
def tbIn (D : Addr) (tk tv : TE) : L2.St → Hp → (Hp → Prop) → Prop := fun σ H Nx => tk σ H fun y H1 => tv σ H1 fun z H2 => ∃ kvs k, y = kV k ∧ H2 D = some (.dK kvs) ∧ kvs.length < sizeLine ∧ Nx (upd H2 D (.dK (putK kvs k z)))
theorem in_run {E kx vx : Expr} {it D : Addr} {tk tv : TE} {vs : List Nat} (hk : PE Y kx tk) (hv : PE Y vx tv) (ps : List (Addr × Obj)) (s : Shared) (σ2 : L2.St) (H : Hp) (Nx : Hp → Prop) (I : Inv Y ps σ2 H s) (h : tbIn D tk tv σ2 H Nx) :
    wpAny (model Y.prog Y.w) Y.A (bodyIn E kx vx (.ref it) D Y.env) (fun r s' => r = .again (.compLoop E 1 (.ref it) (.ref D) Y.env) ∧ ∃ σ' H', Inv Y ps σ' H' s' ∧ σ'.length = σ2.length ∧ (∀ (j : Nat) v, (wipe σ2 vs)[j]? = some (some v) → σ'[j]? = some (some v)) ∧ Nx H') Y.xe s := by
  unfold bodyIn storeIn
  refine wpAny_bind (wpAny_bind (thn (hk.run ps s σ2 H _ I h) fun kv s1 ⟨y, H1, I1, r1, h1⟩ => wpAny_bind (wpAny_holding (thn (hv.run ps s1 σ2 H1 _ I1 h1) fun vv s2 ⟨z, H2, I2, r2, kvs, k, ek, hD, hz, nx⟩ => ?_))))
  subst ek
  refine wpAny_bind (wpAny_standAt (wpAny_holding (d_dictSet I2 hD hz r1 r2 fun s3 I3 => ?_)))
  exact wpAny_pure ⟨rfl, σ2, _, I3, rfl, fun j v e => (wipe_some e).1, nx⟩
/-- the second clause's start -/
theorem start1 {kx vx t0 i0 t1 i1 : Expr} {ifs0 ifs1 : List Expr} {scope : Scope} {pos : Pos} {it acc : Value} {env : Env} {prog : Program} {w : World} {A : Around} {R : Result → Shared → Prop} {s : Shared} (h0 : codeAny (model prog w) A (.compLoop (.DictComp kx vx [⟨t0, i0, ifs0, 0⟩, ⟨t1, i1, ifs1, 0⟩] scope pos) 1 it acc env) R s)
    (h : wpAny (model prog w) A (pyIter it) (fun it' s' => codeAny (model prog w) A (.compLoop (.DictComp kx vx [⟨t0, i0, ifs0, 0⟩, ⟨t1, i1, ifs1, 0⟩] scope pos) 1 it' acc env) R s') (notedBy (model prog w) A env fun x s' => R (.error x) s') s) :
    codeAny (model prog w) A (.compStart (.DictComp kx vx [⟨t0, i0, ifs0, 0⟩, ⟨t1, i1, ifs1, 0⟩] scope pos) 1 it acc env) R s := by
  refine codeAny_of_tree (show wpAny _ _ ((compStart (.DictComp kx vx [⟨t0, i0, ifs0, 0⟩, ⟨t1, i1, ifs1, 0⟩] scope pos) 1 it acc env).onRaise (fun x => do noteFrame x env; standAt theWindowsPlace)) _ _ s from wpAny_notedAt ?_)
  unfold compStart
  refine show wpAny _ _ (ask >>= _) _ _ s from wpAny_bind (wpAny_askSetting (wpAny_ite ?_))
  split
  · first
      | exact wpAny_bind (wpAny_pure (wpAny_pure ⟨rfl, h0⟩))
      | exact wpAny_pure ⟨rfl, h0⟩
  · refine wpAny_bind (wpAny_rule ?_)
    refine show wpAny _ _ (standAt i1.pos >>= _) _ _ s from wpAny_bind (wpAny_standAt (wpAny_bind (wpAny_mono h (fun it' s' h' => wpAny_pure ⟨rfl, h'⟩) fun _ _ x => x)))
/-- the inner clause -/
def tbOut (D : Addr) (wi1 : TI) (g1 : TG) (tt1 : TT) (tk tv : TE) (vs1 : List Nat) : L2.St → Hp → (Hp → Prop) → Prop := fun σ2 H3 Nx => wi1 σ2 H3 fun J1 H4 => ∃ W1 : Nat → Nat → Hp → Prop, (∃ m, W1 0 m H4) ∧ turns J1 g1 tt1 vs1 σ2 (tbIn D tk tv) W1 Nx
theorem out_run {kx vx t0 i0 t1 i1 : Expr} {ifs0 ifs1 : List Expr} {scope : Scope} {pos : Pos} {it D : Addr} {wi1 : TI} {g1 : TG} {tt1 : TT} {tk tv : TE} {vs vs1 : List Nat} (hc : Y.calm = true) (hs1 : ∀ env x, foldedSetIterable i1 env x = pure x) (hv1 : ∀ i ∈ vs1, i ∈ vs)
    (xf : ∀ e s', Y.xe e s' → False) (hi1 : PI Y t1 i1 wi1) (hg1 : PG Y t1 g1) (ht1 : PTs Y ifs1 tt1) (hk : PE Y kx tk) (hv : PE Y vx tv) (ps : List (Addr × Obj)) (s : Shared) (σ2 : L2.St) (H : Hp) (Nx : Hp → Prop) (I : Inv Y ps σ2 H s) (h : tbOut D wi1 g1 tt1 tk tv vs1 σ2 H Nx) :
    wpAny (model Y.prog Y.w) Y.A (bodyOut (.DictComp kx vx [⟨t0, i0, ifs0, 0⟩, ⟨t1, i1, ifs1, 0⟩] scope pos) i1 (.ref it) (.ref D) Y.env) (fun r s' => r = .again (.compLoop (.DictComp kx vx [⟨t0, i0, ifs0, 0⟩, ⟨t1, i1, ifs1, 0⟩] scope pos) 0 (.ref it) (.ref D) Y.env) ∧ ∃ σ' H', Inv Y ps σ' H' s' ∧ σ'.length = σ2.length ∧ (∀ (j : Nat) v, (wipe σ2 vs)[j]? = some (some v) → σ'[j]? = some (some v)) ∧ Nx H') Y.xe s := by
  unfold bodyOut
  refine wpAny_bind (thn (hi1.run ps s σ2 H _ I h) fun x s1 hx => wpAny_bind (wpAny_standAt (wpAny_bind (wpAny_of_eq (hs1 _ x) (wpAny_bind (wpAny_holding (thn hx fun itv s2 h2 => ?_)))))))
  obtain ⟨it1, fp, tn, J1, H2, e, I2, T, st2, f2, W1, ⟨m1, w1⟩, hl⟩ := h2
  subst e
  refine wpAny_bind (wpAny_runOwn ?_)
  rw [Around.mark_none]
  have loop : codeAny (model Y.prog Y.w) Y.A (.compLoop (.DictComp kx vx [⟨t0, i0, ifs0, 0⟩, ⟨t1, i1, ifs1, 0⟩] scope pos) 1 (.ref it1) (.ref D) Y.env)
      (fun r s' => match r with
        | .ok _ => ∃ H', Inv Y ps (wipe σ2 vs1) H' s' ∧ Nx H'
        | .error _ => False) s2 :=
    loop_gen rfl (in_eq kx vx t0 i0 t1 i1 ifs0 ifs1 scope pos (.ref it1) D Y.env) hc T hg1 ht1 hl (fun e s' z => (xf e s' z).elim) (in_run hk hv) (fun σ' H' s' _ hn b hb => ⟨hn b hb, (f2 b hb).2⟩) (fun H' s' I' nx => ⟨H', I', nx⟩) (I2.weak (wipe_length _ _) fun j v e => (wipe_some e).1) st2 (fun b hb => (f2 b hb).1) w1
  refine codeAny_mono (start1 loop (T.self Y.A 0 _ _ _ st2 loop)) fun r s' hr => ?_
  cases r with
  | error e => exact hr.elim
  | ok f =>
    obtain ⟨H', I', nx⟩ := hr
    have fin : wpAny (model Y.prog Y.w) Y.A (again (.compLoop (.DictComp kx vx [⟨t0, i0, ifs0, 0⟩, ⟨t1, i1, ifs1, 0⟩] scope pos) 0 (.ref it) (.ref D) Y.env)) (fun r s' => r = .again (.compLoop (.DictComp kx vx [⟨t0, i0, ifs0, 0⟩, ⟨t1, i1, ifs1, 0⟩] scope pos) 0 (.ref it) (.ref D) Y.env) ∧ ∃ σ' H', Inv Y ps σ' H' s' ∧ σ'.length = σ2.length ∧ (∀ (j : Nat) v, (wipe σ2 vs)[j]? = some (some v) → σ'[j]? = some (some v)) ∧ Nx H') Y.xe s' := by
      refine wpAny_pure ⟨rfl, _, H', I', wipe_length _ _, fun j v e => ?_, nx⟩
      obtain ⟨e1, e2⟩ := wipe_some e
      rw [wipe_out fun z => e2 (hv1 j z)]
      exact e1
    first
      | exact fin
      | exact wpAny_bind (wpAny_pure fin)
      | exact wpAny_pure fin
end
/-- {k: v for x in xs if .. for y in ys if ..}: D the new dict -/
def tDc2 (wi : TI) (g : TG) (tt : TT) (wi1 : TI) (g1 : TG) (tt1 : TT) (tk tv : TE) (vs vs1 : List Nat) : TE := fun σ H Q => wi σ H fun J H1 => ∀ D, H1 D = none → ∃ W : Nat → Nat → Hp → Prop, (∃ m, W 0 m (upd H1 D (.dK []))) ∧ turns J g tt vs σ (tbOut D wi1 g1 tt1 tk tv vs1) W (Q (.ref D))
section
variable {X : Cx}
theorem pe_dc2 {kx vx tg iter tg1 iter1 : Expr} {ifs ifs1 : List Expr} {scope : Scope} {own : List (PySem.Str × Nat)} {vs1 : List Nat} {pos : Pos} {wi wi1 : TI} {g g1 : TG} {tt tt1 : TT} {tk tv : TE} (hc : X.calm = true) (hN : X.N.Nodup) (hi : PI X tg iter wi) (ok : BlkOk X.N X.env.scope scope own) (hv1 : ∀ i ∈ vs1, i ∈ own.map (·.2))
    (hg : ∀ (s : Shared) (H : Hp) (C : Addr) (cl : List (PySem.Str × Addr)) (fp : List Addr), PG (X.blk s H scope (compEnvC scope cl C X.env) fp) tg g) (ht : ∀ (s : Shared) (H : Hp) (C : Addr) (cl : List (PySem.Str × Addr)) (fp : List Addr), PTs (X.blk s H scope (compEnvC scope cl C X.env) fp) ifs tt)
    (hi1 : ∀ (s : Shared) (H : Hp) (C : Addr) (cl : List (PySem.Str × Addr)) (fp : List Addr), PI (X.blk s H scope (compEnvC scope cl C X.env) fp) tg1 iter1 wi1)
    (hg1 : ∀ (s : Shared) (H : Hp) (C : Addr) (cl : List (PySem.Str × Addr)) (fp : List Addr), PG (X.blk s H scope (compEnvC scope cl C X.env) fp) tg1 g1) (ht1 : ∀ (s : Shared) (H : Hp) (C : Addr) (cl : List (PySem.Str × Addr)) (fp : List Addr), PTs (X.blk s H scope (compEnvC scope cl C X.env) fp) ifs1 tt1)
    (hk : ∀ (s : Shared) (H : Hp) (C : Addr) (cl : List (PySem.Str × Addr)) (fp : List Addr), PE (X.blk s H scope (compEnvC scope cl C X.env) fp) kx tk) (hv : ∀ (s : Shared) (H : Hp) (C : Addr) (cl : List (PySem.Str × Addr)) (fp : List Addr), PE (X.blk s H scope (compEnvC scope cl C X.env) fp) vx tv)
    (hs : ∀ x, foldedSetIterable iter X.env x = pure x := by intro _; rfl) (hs1 : ∀ env x, foldedSetIterable iter1 env x = pure x := by intro _ _; rfl) :
    PE X (.DictComp kx vx [⟨tg, iter, ifs, 0⟩, ⟨tg1, iter1, ifs1, 0⟩] scope pos) (tDc2 wi g tt wi1 g1 tt1 tk tv (own.map (·.2)) vs1) := by
  refine ⟨fun pins s σ H Q I h => ?_⟩
  have hfree : ∀ y ∈ scope.names, y.2 = .free → ∃ c, X.env.cells.lookup y.1 = some c := fun y hy e => (ok.free y hy e).elim (fun k => I.ok.has _ (.inl k)) fun k => I.ok.has _ (.inr k)
  rw [arm_eval_DictComp]
  refine wpAny_comprehension_free (use := none) rfl hs (closure_ok hfree) ok.kind (fun y hy e => by rw [ok.uniq y hy, e]) (thn (hi.run pins s σ H _ I h) fun xv s1 hx => thn hx fun itv s2 h2 => ?_)
  obtain ⟨it, fp, tn, J, H2, e, I2, T, st2, f2, q⟩ := h2
  subst e
  refine wpAny_newObj_type (newEnv_comp ?_)
  generalize hD : s2.heap.objs.size = D
  obtain ⟨W, ⟨m0, w0⟩, hl⟩ := q D (I2.hok.fresh (Nat.le_of_eq hD))
  have kp : ∀ b o, s2.heap.get? b = some o → (s2.heap.push { cls := .type "dict", data := .dict #[] }).get? b = some o := fun b o e => Heap.get?_push_of_some _ e
  generalize hs3 : ({ s2 with heap := s2.heap.push { cls := .type "dict", data := .dict #[] } } : Shared) = s3
  have h3 : s3.heap = s2.heap.push { cls := .type "dict", data := .dict #[] } := by rw [← hs3]
  have I3 : Inv X pins σ (upd H2 D (.dK [])) s3 := by
    rw [← hs3]
    refine I2.laid (t' := s2.toks) kp (Nat.le_of_eq hD) ?_
    rw [← hD]
    exact dk_empty s2.heap I2.big
  have f3 : ∀ b ∈ fp, FpOk X pins (upd H2 D (.dK [])) b ∧ b < s3.heap.objs.size := fun b hb => by
    obtain ⟨o, e, _⟩ := T.obj _ _ st2 b hb
    have lt := Heap.lt_size e
    refine ⟨⟨?_, (f2 b hb).2⟩, by rw [h3, Heap.size_push]; exact Nat.lt_succ_of_lt lt⟩
    rw [upd_ne (by rw [← hD]; exact Nat.ne_of_lt lt)]
    exact (f2 b hb).1
  have st3 : tn 0 s3.heap := T.keep _ _ _ st2 fun b _ o e => by rw [h3]; exact kp b o e
  have I4 := block_start I3 ok hN f3
  have st4 := T.keep _ _ (pushCells (s3.heap.push { cls := .type "dict", data := .dict #[] }) scope.names) st3 fun b _ o e => pushCells_keeps _ _ _ _ (Heap.get?_push_of_some _ e)
  have loop := loop_gen (Y := X.blk s3 (upd H2 D (.dK [])) scope (compEnvC scope (cellsFrom (s3.heap.objs.size + 1) scope.names (cloFrom X.env.cells scope.names [])) s3.heap.objs.size X.env) fp) (kx := kx) (vx := vx) (scope := scope) (pos := pos) (pins := [])
    (R := compPost (model X.prog X.w) X.A X.xe none (EP X pins σ Q) (.ref D) s3.heap.objs.size) rfl (out_eq kx vx tg iter tg1 iter1 ifs ifs1 scope pos (.ref it) D _) hc T (hg _ _ _ _ _) (ht _ _ _ _ _) hl (fun _ _ z => False.elim z)
    (out_run hc hs1 hv1 (fun _ _ z => z) (hi1 _ _ _ _ _) (hg1 _ _ _ _ _) (ht1 _ _ _ _ _) (hk _ _ _ _ _) (hv _ _ _ _ _))
    (fun σ' H' s' I' hn b hb => ⟨hn b hb, (I'.ok.exf b hb).1, I'.ok.exfs b hb, .inl hb, fun x c e => (I'.ok.exf b hb).2 x c e, fun p hp => absurd (show p ∈ ([] : List (Addr × Obj)) ++ [] from hp) (by simp)⟩)
    (fun H' s6 I6 qd => ?_) I4 st4 (fun b hb => (f3 b hb).1.1) w0
  · exact codeAny_compStart_dict loop (T.self X.A 0 _ _ _ st4 loop)
  · have I7 : Inv X pins σ H' s6 := I3.call' (ch := fp) I6.os I6.base I6.hok I6.bare fun b hb => ⟨(f3 b hb).1.2.2.2.1, (f3 b hb).1.2.1, (f3 b hb).1.2.2.2.2.1, (f3 b hb).1.2.2.2.2.2⟩
    have nC : H' s3.heap.objs.size = none := I6.free
    obtain ⟨m, hn, _⟩ := I6.loc
    obtain ⟨f0, f1, f2', f4, f5, f6⟩ := I3.fpOk (H' := H') (Nat.le_refl _) nC
    exact ⟨m, hn, fun h'' sb => ⟨.ref D, H', I7.turned (t' := s6.toks) (fun b o hb e => (sb.2 b hb).trans e) f0 f1 f4 f5 f6, rfl, qd⟩⟩
end
/-- a clause's turns over a walk -/
theorem turns_it {J : It} {n : Nat} {G : Hp → Prop} {Y : Nat → Hp → V → Hp → Prop} (wk : Walk J n G Y) {g : TG} {tt : TT} {vs : List Nat} {σ : L2.St} {tb : L2.St → Hp → (Hp → Prop) → Prop} {H1 : Hp} {Qd : Hp → Prop} (Pv : Nat → Hp → Prop) (h0 : Pv 0 H1) (hG : ∀ i H, i ≤ n → Pv i H → G H)
    (hs : ∀ i x H H', i < n → Pv i H → Y i H x H' → g x (wipe σ vs) H' fun σ2 H2 => wipe σ2 vs = wipe σ vs ∧ tt σ2 H2 fun b H3 => if b = true then tb σ2 H3 (Pv (i + 1)) else Pv (i + 1) H3) (hd : ∀ H, Pv n H → Qd H) :
    ∃ W : Nat → Nat → Hp → Prop, (∃ m, W 0 m H1) ∧ turns J g tt vs σ tb W Qd := by
  refine ⟨fun i m H => m + i = n ∧ Pv i H, ⟨n, rfl, h0⟩, fun i m H ⟨e, p⟩ => ?_⟩
  have q := hG i H (by omega) p
  match m, e with
  | 0, e =>
    obtain rfl : i = n := by omega
    exact .inl ⟨wk.stops H q, hd H p⟩
  | m + 1, e => exact .inr ⟨wk.goes i H (by omega) q, Pv (i + 1), fun H' p' => ⟨m, Nat.lt_succ_self m, by omega, p'⟩, fun x H' y => hs i x H H' (by omega) p (wk.yields i H x H' (by omega) q y)⟩
end DcTwo
/-! sorted(l) of a list of texts (fewer than 64), and of what is a list or a tuple of texts -/
namespace SortT
open PySem PySem.Spec PyProof.Rows L2
def rSortL (K : PySem.W.Frag) : List V → Hp → VK → Prop := fun xs H Q => ∃ (a : Addr) (zs : List Str), xs = [.ref a] ∧ SqL K H a (zs.map V.str) ∧ zs.length < 64 ∧ ∀ ys p, ys.Perm zs → sortedS ys = true → H p = none → Q (.ref p) (upd H p (.lst (ys.map V.str)))
theorem call_sortL {X : Cx} : CallR X (.builtin "sorted") (rSortL X.K) := by
  intro pins s σ H xs us Q I r h
  obtain ⟨a, zs, rfl, hs, h64, q⟩ := h
  obtain ⟨u, rfl, rx⟩ := vals1 r
  obtain rfl : u = Value.ref a := rx
  obtain ⟨its, rv, pl, hz⟩ := I.list hs
  have hS : StrsAre its zs := rv.strs
  have hal : its.length = zs.length := by
    have := rv.length
    rw [List.length_map] at this
    exact this.symm
  obtain ⟨⟨cls, dd, data, sl⟩, ho, hc, n, hd⟩ := pl.isList
  simp only at hc hd
  subst hc hd
  refine Calls.call_function_entry kind_sorted plain_sorted entry_sorted (args_sorted1 _) ?_
  unfold Builtin.«sorted»
  refine wpAny_bind (m := checkCount "sorted" 1 1 _) (wpAny_pure (wpAny_bind (wpAny_collect_seq (A := X.A.in1) a (.inl rfl) ho rfl rfl (fun h' hk => ?_) (by rw [List.size_toArray]; rw [← rv.length]; exact hz))))
  rw [List.toList_toArray]
  have I1 : Inv X pins σ H { s with heap := h' } := I.kept (t' := s.toks) hk
  refine wpAny_bind (wpAny_newList ?_ (by rw [hal, sizeLine_eq]; omega))
  have hoL : (h'.push (seqObj "list" its.toArray 0)).get? h'.objs.size = some (seqObj "list" its.toArray 0) := Heap.get?_push_size _ rfl
  show wpAny _ _ _ _ _ { s with heap := h'.push (seqObj "list" its.toArray 0) }
  refine wpAny_bind (wpAny_holding (wpAny_call_entry slot_list_sort ⟨_, hoL, rfl⟩ entry_list_sort
    (list_sort_treeK strKind_oneLt (s := { s with heap := h'.push (seqObj "list" its.toArray 0) }) hoL hS.keysOf (fun v₁ v₂ rest e => keyKind_strs (by rw [← e]; exact hS)) (by rw [hal]; exact h64) fun st' hp hs => ⟨_, rfl, ?_⟩) (args_list_sort _)))
  obtain ⟨ys, g1, g2, g3⟩ := sorted_out_str hS hp hs
  obtain ⟨e', he'⟩ := sortedHeap_at (vs := its) (out := (arrOf st').map (·.2)) hoL
  have hlen : (ys.map V.str).length ≤ sizeLine := by
    rw [List.length_map, g2.length_eq]
    exact Nat.le_trans (Nat.le_of_lt h64) (by decide)
  refine wpAny_pure ⟨_, rfl, .ref h'.objs.size, upd H h'.objs.size (.lst (ys.map V.str)), I1.laid (t' := s.toks) (fun b u e => ?_) (Nat.le_refl _) (show ObjOk X.prog X.w _ _ _ (.lst (ys.map V.str)) from ⟨hlen, ((arrOf st').map (·.2)).toList, e', vals_of_strs g1, by rw [Array.toArray_toList]; exact he'⟩), rfl, q ys _ g2 g3 (I1.hok.fresh (Nat.le_refl _))⟩
  have hb : b < h'.objs.size := Heap.lt_size e
  rw [sortedHeap_old (Nat.ne_of_lt hb) (by rw [size_push']; exact Nat.lt_succ_of_lt hb)]
  exact Heap.get?_push_of_some _ e
def rSortLT (K : PySem.W.Frag) : List V → Hp → VK → Prop := fun xs H Q => ∃ (a : Addr) (zs : List Str), xs = [.ref a] ∧ (SqL K H a (zs.map V.str) ∨ SqT K H a (zs.map V.str)) ∧ zs.length < 64 ∧ ∀ ys p, ys.Perm zs → sortedS ys = true → H p = none → Q (.ref p) (upd H p (.lst (ys.map V.str)))
theorem call_sortLT {X : Cx} : CallR X (.builtin "sorted") (rSortLT X.K) := by
  intro pins s σ H xs us Q I r h
  obtain ⟨a, zs, e, hs, h64, q⟩ := h
  rcases hs with hs | hs
  · exact call_sortL pins s σ H xs us Q I r ⟨a, zs, e, hs, h64, q⟩
  · exact call_sortT pins s σ H xs us Q I r ⟨a, zs, e, hs, h64, q⟩
end SortT
namespace Sj
open PySem L2 Sup StK Own Shw Exg Grd KepE
open NdefX (NF NScope ncx envF startF nscope_by)
open C8 (pss_cut tCut)
/-! Board.__init__, where all is well -/
abbrev sBoI : Stmt := inClass (top 46) 0
abbrev nBo : List Str := ["self", "frame", "blocks", "reason", "named", "alone", "block", "name"]
theorem scBoI : FnScope nBo ["self", "frame", "blocks"] (defScope sBoI) := ⟨rfl, rfl, rfl, by decide +kernel, rfl, by decide +kernel, by decide +kernel⟩
structure BoT (P : Program) (w : World) (K : PySem.W.Frag) (mg : Str → Option Value) (base : Heap) (ks : Kinds) (CF CI fI CB : Addr) : Prop where
  wrong : ∃ f fd, mg "wrong_blocks" = some (.ref f) ∧ PySem.W.keepIn K (.ref f) = true ∧ Binds K fd ["frame", "blocks"] [] ∧ FnOk P w K mg base CX0 4 f fd ["frame", "blocks"] (spWb K ks CF)
  mem : PropN P w K mg base 3 CF "members" (spMem ks CF)
  mI : mg "InvalidBoard" = some (.ref CI)
  ex : ExT P K mg CI "reason"
  iC : PySem.W.findIn K (.ref CI) "__init__" = some (some (.ref fI))
  tI : PySem.W.typeIn K (.ref fI) = some (.type "function")
  inv : ∃ fdI, Binds K fdI ["self", "reason"] [] ∧ FnOk P w K mg base CX0 1 fI fdI ["self", "reason"] (spInv K CI)
  sorted : mg "sorted" = none
  tuple : mg "tuple" = none
  cl : Cls K CB
  nF : NoAttr K CB "frame"
  nB : NoAttr K CB "_blocks"
  nH : NoAttr K CB "_homes"
/-- a board's attributes -/
def boF (f B D : Addr) : List (Str × V) := putF "_homes" (.ref D) (putF "_blocks" (.ref B) (putF "frame" (.ref f) []))
def tOne (K : PySem.W.Frag) : TE := tTup (tCons (tVar 7) tNil)
def tSrt (K : PySem.W.Frag) : TE := tCB (fun xs H Q => ∃ p ys, xs = [V.ref p] ∧ ((SqL K H p ys ∧ ∀ l, H l = none → Q (.ref l) (upd H l (.tup ys))) ∨ (SqT K H p ys ∧ Q (.ref p) H))) (tCons (tCB (SortT.rSortLT K) (tCons (tVar 6) tNil)) tNil)
/-- a board stands at o -/
def BoAt (H : Hp) (o CB f : Addr) (L : List (Addr × List Str)) : Prop := ∃ dx B D hs, H o = some (.ins CB dx (boF f B D)) ∧ H B = some (.tup (L.map fun x => V.ref x.1)) ∧ (∀ x ∈ L, H x.1 = some (.tup (strv x.2)) ∧ x.2 ≠ []) ∧ H D = some (.dK hs) ∧ ∀ x ∈ L, ∀ z ∈ x.2, valV hs (Sum.inr z) = some (.ref x.1)
/-- the blocks of a board: each in order, all in order, the elements that none names alone -/
def RowsOf (d : FrD) (Bl : List (Addr × List Str)) (L : List (Addr × List Str)) : Prop := ∃ ms Ss, Mem d ms ∧ Ss.length = Bl.length ∧ (∀ (i : Nat) (y : Addr × List Str) (z : List Str), Bl[i]? = some y → Ss[i]? = some z → z.Perm y.2 ∧ PyProof.Rows.sortedS z = true) ∧ (L.map (·.2)).Perm (Ss ++ (ms.filter fun z => decide (z ∉ allN Bl)).map fun z => [z]) ∧ (L.map (·.2)).Pairwise SortB.RLe
def spBoI (K : PySem.W.Frag) (ks : Kinds) (CF CB : Addr) : Sp := fun vs H Q E => ∃ (o dx f t : Addr) (d : FrD) (Bl : List (Addr × List Str)), vs = [.ref o, .ref f, .ref t] ∧ H o = some (.ins CB dx []) ∧ FrIs ks CF H f d ∧ H t = some (.tup (Bl.map fun x => V.ref x.1)) ∧ BlkAt H Bl ∧
  (∀ z ∈ allN Bl, z ∈ membZ d) ∧ (allN Bl).Nodup ∧ (membZ d).Nodup ∧ (allN Bl).length ≤ 60 ∧ (∀ x ∈ Bl, ¬ (("ground" : Str) ∈ x.2 ∧ ("power" : Str) ∈ x.2)) ∧ ∀ H' L, RowsOf d Bl L → BoAt H' o CB f L → But H H' o → Q .non H'
theorem FrIs.but {ks : Kinds} {CF CB o dx : Addr} {H H' : Hp} {a : Addr} {d : FrD} (h : FrIs ks CF H a d) (ho : H o = some (.ins CB dx [])) (s : But H H' o) : FrIs ks CF H' a d := by
  refine ⟨?_, fun r hr => ?_, h.nd, h.le, h.so⟩
  · obtain ⟨dy, D, h1, h2, h3⟩ := h.at_
    refine ⟨dy, D, s _ _ (fun e => ?_) h1, s _ _ (fun e => ?_) h2, h3⟩
    · rw [e, ho] at h1
      cases h1
    · rw [e, ho] at h2
      cases h2
  · obtain ⟨hc, dy, hl⟩ := h.ok r hr
    refine ⟨hc, dy, s _ _ (fun e => ?_) hl⟩
    rw [e, ho] at hl
    cases hl
theorem BlkAt.but {CB o dx : Addr} {H H' : Hp} {Bl : List (Addr × List Str)} (h : BlkAt H Bl) (ho : H o = some (.ins CB dx [])) (s : But H H' o) : BlkAt H' Bl := fun x hx => by
  refine ⟨(h x hx).1.imp (fun q => s _ _ (fun e => ?_) q) (fun q => s _ _ (fun e => ?_) q), (h x hx).2⟩ <;> (rw [e, ho] at q; cases q)
theorem allN_perm {L L' : List (Addr × List Str)} (h : L.Perm L') : (allN L).Perm (allN L') := h.flatMap_right _
theorem allN_rows : ∀ {S Bl : List (Addr × List Str)}, S.length = Bl.length → (∀ (j : Nat) (y z : Addr × List Str), Bl[j]? = some y → S[j]? = some z → z.2.Perm y.2 ∧ PyProof.Rows.sortedS z.2 = true) → (allN S).Perm (allN Bl)
  | [], [], _, _ => .refl _
  | [], _ :: _, h, _ => by cases h
  | _ :: _, [], h, _ => by cases h
  | x :: S, y :: Bl, h, hp => by
    show (x.2 ++ allN S).Perm (y.2 ++ allN Bl)
    exact ((hp 0 y x rfl rfl).1).append (allN_rows (Nat.succ.inj h) fun j y' z' e1 e2 => hp (j + 1) y' z' e1 e2)
theorem allN_ones : ∀ {A : List (Addr × List Str)} {F : List Str}, A.map (·.2) = F.map (fun z => [z]) → allN A = F
  | [], [], _ => rfl
  | [], _ :: _, h => by cases h
  | _ :: _, [], h => by cases h
  | x :: A, z :: F, h => by
    rw [List.map_cons, List.map_cons] at h
    injection h with h1 h2
    show x.2 ++ allN A = _
    rw [h1, allN_ones h2]
    rfl
section
variable {P : Program} {w : World} {K : PySem.W.Frag} {mg : Str → Option Value} {base : Heap}
theorem body_boI {CI fI CF CB f : Addr} {ks : Kinds} (T : BoT P w K mg base ks CF CI fI CB) (cdv : Value) (A : Around) (outer : List Env) (s : Shared) (H : Hp) (vs : List V) (Q : VK) (E : XK)
    (hr : Room 4 (A.deeper (PyProof.Rows.envOfC "Board.__init__" (defScope sBoI) s.heap.objs.size f cdv))) (h : spBoI K ks CF CB vs H Q E) :
    ∃ t, PSs (cxOf (L2.CX P w) P w K mg base nBo "Board.__init__" (defScope sBoI) f cdv A outer s H E) (defBody sBoI) t ∧ t { nx := fun _ H' => Q .non H', rt := Q } (start nBo vs) H := by
  obtain ⟨fdI, bI, GI⟩ := T.inv
  obtain ⟨fW, fdW, mW, kW, bW, GW⟩ := T.wrong
  have hr1 := hr.mono (show 2 ≤ 4 by decide)
  refine ⟨_, pss_cons (ps_set (i := 3) scBoI.nd rfl (Or.inl rfl) (pe_call GW hr rfl mW kW bW .nil pass0 (pa_cons (pv 1) (pa_cons (pv 2) pa_nil))))
      (pss_cons (ps_if (pt_cmpR op_notN (pv 3) pe_non (nomark _)) (pss_one (ps_raise rfl (takes_of rfl rfl rfl rfl) (pmk_oex T.ex.oex T.iC T.tI GI hr1 bI .nil pass0 rfl T.mI (pa_cons (pv 3) pa_nil)))) pss_nil)
      (pss_cons (ps_fld (pv 0) (pv 1) rfl)
      (pss_cons (ps_set (i := 4) scBoI.nd rfl (Or.inr rfl) (pe_lc2 (wi1 := iSeq K (tVar 6)) (te := tVar 7) (tt := tYes) (tt1 := tYes) (own := [("block", 6), ("name", 7)]) (vs1 := [7]) (g := gName 6) (g1 := gName 7) rfl scBoI.nd (pi_tup (pv 2)) (blkOk_by (N := nBo) (sc := defScope sBoI) (by decide +kernel)) (by decide)
          (fun _ _ _ _ _ => pg_name (i := 6) scBoI.nd rfl (Or.inl rfl)) (fun _ _ _ _ _ => pts_nil) (fun _ _ _ _ _ => pi_seq (pv 6)) (fun _ _ _ _ _ => pg_name (i := 7) scBoI.nd rfl (Or.inl rfl)) (fun _ _ _ _ _ => pts_nil) (fun _ _ _ _ _ => pv 7)))
      (pss_cons (ps_setLc (i := 5) (te := tOne K) (tt := tB (tOp (rIn K true) (tVar 7) (tVar 4))) (own := [("name", 7)]) (g := gName 7) rfl scBoI.nd rfl rfl (sw_true rfl rfl rfl (by decide +kernel)) (pi_tup (pe_propS (S := fun C => C = CF) (spP := fun _ => spMem ks CF) (pv 1) (fun C e => by rw [e]; exact T.mem) hr)) (blkOk_by (N := nBo) (sc := defScope sBoI) (by decide +kernel))
          (fun _ _ _ _ _ => pg_name (i := 7) scBoI.nd rfl (Or.inl rfl)) (fun _ _ _ _ _ => pts_one (pt_cmpR op_notIn_seq (pv 7) (pv 4) (by rfl))) (fun _ _ _ _ _ => pe_tup (pa_cons (pv 7) pa_nil)))
      (pss_cons (ps_fld (pv 0) (pe_callTy (T := "tuple") call_tuple_of (by rfl) T.tuple (by decide +kernel) (pa_cons (pe_callB SortB.call_sortedTT (by rfl) T.sorted (by decide +kernel) (pa_cons (pe_op op_cat
          (pe_lc (te := tSrt K) (tt := tYes) (own := [("block", 6)]) (g := gName 6) rfl scBoI.nd (pi_tup (pv 2)) (blkOk_by (N := nBo) (sc := defScope sBoI) (by decide +kernel)) (fun _ _ _ _ _ => pg_name (i := 6) scBoI.nd rfl (Or.inl rfl)) (fun _ _ _ _ _ => pts_nil)
            (fun _ _ _ _ _ => pe_callTy (T := "tuple") call_tuple_of (by rfl) T.tuple (by decide +kernel) (pa_cons (pe_callB SortT.call_sortLT (by rfl) T.sorted (by decide +kernel) (pa_cons (pv 6) pa_nil)) pa_nil))) (pv 5)) pa_nil)) pa_nil)) rfl)
      (pss_one (ps_fld (pv 0) (DcTwo.pe_dc2 (wi1 := iTup K (tVar 6)) (tk := tVar 7) (tv := tVar 6) (tt := tYes) (tt1 := tYes) (own := [("block", 6), ("name", 7)]) (vs1 := [7]) (g := gName 6) (g1 := gName 7) rfl scBoI.nd (pi_tup (pe_fld (pv 0) rfl)) (blkOk_by (N := nBo) (sc := defScope sBoI) (by decide +kernel)) (by decide)
          (fun _ _ _ _ _ => pg_name (i := 6) scBoI.nd rfl (Or.inl rfl)) (fun _ _ _ _ _ => pts_nil) (fun _ _ _ _ _ => pi_tup (pv 6)) (fun _ _ _ _ _ => pg_name (i := 7) scBoI.nd rfl (Or.inl rfl)) (fun _ _ _ _ _ => pts_nil) (fun _ _ _ _ _ => pv 7) (fun _ _ _ _ _ => pv 6)) rfl))))))), ?_⟩
  obtain ⟨o, dx, f, t, d, Bl, rfl, ho, hF, ht, hB, hm, hnd, hmn, hl, hgp, k⟩ := h
  refine ⟨_, rfl, _, rfl, f, t, d, Bl, rfl, hF, SqT.of ht, hB, hm, hnd, hl, hgp, fun H1 s1 => ?_⟩
  refine ⟨_, rfl, rfl, _, rfl, iteF ?_⟩
  refine ⟨_, rfl, _, rfl, o, CB, dx, [], rfl, s1 _ _ ho, T.cl, T.nF, by show 0 < 1000; decide, ?_⟩
  obtain ⟨H2, e2⟩ : ∃ H2, H2 = upd H1 o (.ins CB dx (putF "frame" (.ref f) [])) := ⟨_, rfl⟩
  rw [← e2]
  have b2 : But H H2 o := fun b u hb e => by rw [e2, upd_ne hb]; exact s1 _ _ e
  have o2 : H2 o = some (.ins CB dx (putF "frame" (.ref f) [])) := by rw [e2, upd_same]
  have nto : t ≠ o := fun e => by rw [e, ho] at ht; cases ht
  have ht2 : H2 t = some (.tup (Bl.map fun x => V.ref x.1)) := b2 _ _ nto ht
  have hF2 := hF.but ho b2
  have hB2 := hB.but ho b2
  have at_ : ∀ {i : Nat} {x : V}, (Bl.map fun x => V.ref x.1)[i]? = some x → ∃ y ∈ Bl, Bl[i]? = some y ∧ x = .ref y.1 := fun {i x} h => by
    rw [List.getElem?_map] at h
    cases e : Bl[i]? with
    | none => rw [e] at h; cases h
    | some y => rw [e] at h; exact ⟨y, List.mem_of_getElem? e, rfl, (Option.some.inj h).symm⟩
  -- named
  refine ⟨_, rfl, t, rfl, ⟨_, SqT.of ht2⟩, fun D1 hD1 => ?_⟩
  refine lc2_it (walk_tup (K := K) (a := t) (xs := Bl.map fun x => V.ref x.1)) (fun i H' => Same H2 H' ∧ H' D1 = some (.lst (strv (allN (Bl.take i))))) ⟨same_at hD1, upd_same⟩ (fun i H' _ p => SqT.of (p.1 _ _ ht2)) ?_ ?_
  · rintro i x Ho Ha hi ⟨sa, da⟩ ⟨rfl, hx⟩
    obtain ⟨y, hy, ey, rfl⟩ := at_ hx
    refine ⟨rfl, ?_⟩
    unfold tYes
    dsimp only
    rw [if_pos rfl]
    have hle : (allN (Bl.take i) ++ y.2).length ≤ 60 := by
      rw [← allN_snoc ey]
      refine Nat.le_trans ?_ hl
      have e : allN Bl = allN (Bl.take (i + 1)) ++ allN (Bl.drop (i + 1)) := by
        unfold allN
        rw [← List.flatMap_append, List.take_append_drop]
      rw [e, List.length_append]
      omega
    rw [List.length_append] at hle
    have hyl : (strv y.2).length = y.2.length := List.length_map _
    have turn : ∀ (j : Nat) (x : V) (Hc Hd : Hp), j < (strv y.2).length → (Same H2 Hc ∧ Hc D1 = some (.lst (strv (allN (Bl.take i) ++ y.2.take j)))) → (Hd = Hc ∧ (strv y.2)[j]? = some x) →
        gName 7 x (wipe ([some (V.ref o), some (.ref f), some (.ref t), some .non, none, none, some (.ref y.1), none] : L2.St) [7]) Hd fun σ3 H5 => wipe σ3 [7] = wipe ([some (V.ref o), some (.ref f), some (.ref t), some .non, none, none, some (.ref y.1), none] : L2.St) [7] ∧ tYes σ3 H5 fun b H6 =>
          if b = true then tVar 7 σ3 H6 fun z H7 => ∃ acc, H7 D1 = some (.lst acc) ∧ acc.length < sizeLine ∧ (Same H2 (upd H7 D1 (.lst (acc ++ [z]))) ∧ upd H7 D1 (.lst (acc ++ [z])) D1 = some (.lst (strv (allN (Bl.take i) ++ y.2.take (j + 1))))) else (Same H2 H6 ∧ H6 D1 = some (.lst (strv (allN (Bl.take i) ++ y.2.take (j + 1))))) := by
      rintro j x Hc Hd hj ⟨sc, dc⟩ ⟨rfl, hxj⟩
      rw [hyl] at hj
      have exj : (strv y.2)[j]? = some (.str y.2[j]) := by show (y.2.map V.str)[j]? = _; rw [List.getElem?_map, List.getElem?_eq_getElem hj]; rfl
      rw [exj] at hxj
      obtain rfl := Option.some.inj hxj
      refine ⟨rfl, ?_⟩
      unfold tYes
      dsimp only
      rw [if_pos rfl]
      refine ⟨_, rfl, _, dc, ?_, fun c u e => ?_, ?_⟩
      · unfold strv
        rw [List.length_map, List.length_append, List.length_take]
        exact Nat.lt_of_le_of_lt (show _ ≤ 60 by omega) (by decide)
      · rw [upd_ne (ne_of_none e hD1)]
        exact sc _ _ e
      · rw [upd_same, List.take_add_one, List.getElem?_eq_getElem hj, Option.toList_some, ← List.append_assoc]
        show _ = some (HO.lst (List.map V.str _))
        rw [List.map_append (l₁ := allN (Bl.take i) ++ y.2.take j)]
        rfl
    have d0 : Ha D1 = some (.lst (strv (allN (Bl.take i) ++ y.2.take 0))) := by
      rw [List.take_zero, List.append_nil]
      exact da
    have fin : ∀ Hc, (Same H2 Hc ∧ Hc D1 = some (.lst (strv (allN (Bl.take i) ++ y.2.take (strv y.2).length)))) → (Same H2 Hc ∧ Hc D1 = some (.lst (strv (allN (Bl.take (i + 1)))))) := fun Hc h => ⟨h.1, by
      have := h.2
      rw [hyl, List.take_length, ← allN_snoc ey] at this
      exact this⟩
    rcases (hB2 y hy).1 with q | q
    · exact ⟨_, rfl, y.1, rfl, .inl ⟨⟨_, SqL.of (sa _ _ q)⟩, in_it (walk_list (K := K) (a := y.1) (xs := strv y.2)) (fun j H' => Same H2 H' ∧ H' D1 = some (.lst (strv (allN (Bl.take i) ++ y.2.take j)))) ⟨sa, d0⟩ (fun j H' _ p => SqL.of (p.1 _ _ q)) turn fin⟩⟩
    · exact ⟨_, rfl, y.1, rfl, .inr ⟨⟨_, SqT.of (sa _ _ q)⟩, in_it (walk_tup (K := K) (a := y.1) (xs := strv y.2)) (fun j H' => Same H2 H' ∧ H' D1 = some (.lst (strv (allN (Bl.take i) ++ y.2.take j)))) ⟨sa, d0⟩ (fun j H' _ p => SqT.of (p.1 _ _ q)) turn fin⟩⟩
  rintro H3 ⟨s3, d3⟩
  have hBl : (Bl.map fun x => V.ref x.1).length = Bl.length := List.length_map _
  rw [hBl, List.take_length] at d3
  -- alone
  have hF3 := hF2.same s3
  obtain ⟨dxf, fsf, eaf⟩ := hF3.ins
  refine ⟨_, rfl, f, CF, dxf, fsf, rfl, eaf, rfl, f, d, rfl, hF3, fun ms p4 H4 hms hp4 hv4 s4 => ?_⟩
  refine ⟨p4, rfl, ⟨_, SqT.of hv4⟩, fun D2 hD2 => ?_⟩
  have hmsl : (strv ms).length = ms.length := List.length_map _
  have hms42 : ms.length ≤ 42 := by
    rw [hms.1.length_eq, List.length_append]
    have hn40 : (names d.ys).length ≤ 40 := by unfold names; rw [List.length_map]; exact hF.le
    have hr2 : (railsZ d.g d.r).length ≤ 2 := by unfold railsZ; cases d.g <;> cases d.r <;> decide
    omega
  have d3b : H4 D1 = some (.lst (strv (allN Bl))) := s4 _ _ d3
  refine lc_it (walk_tup (K := K) (a := p4) (xs := strv ms)) (fun i H' => Same H4 H' ∧ ∃ A : List (Addr × List Str), A.map (·.2) = ((ms.take i).filter fun z => decide (z ∉ allN Bl)).map (fun z => [z]) ∧ H' D2 = some (.lst (A.map fun x => V.ref x.1)) ∧ ∀ x ∈ A, H' x.1 = some (.tup (strv x.2))) ⟨same_at hD2, [], rfl, upd_same, fun x hx => by cases hx⟩ (fun i H' _ p => SqT.of (p.1 _ _ hv4)) ?_ ?_
  · rintro i x Ho Ha hi ⟨sa, B, hB1, da, hB2'⟩ ⟨rfl, hx⟩
    rw [hmsl] at hi
    have ex : (strv ms)[i]? = some (.str ms[i]) := by show (ms.map V.str)[i]? = _; rw [List.getElem?_map, List.getElem?_eq_getElem hi]; rfl
    rw [ex] at hx
    obtain rfl := Option.some.inj hx
    have hin : inV (.str ms[i]) (strv (allN Bl)) = decide (ms[i] ∈ allN Bl) := inV_strs _ _
    have hBlen : B.length ≤ i := by
      have := congrArg List.length hB1
      rw [List.length_map, List.length_map] at this
      rw [this]
      exact Nat.le_trans (List.length_filter_le _ _) (by rw [List.length_take]; omega)
    have etake : (ms.take (i + 1)).filter (fun z => decide (z ∉ allN Bl)) = (ms.take i).filter (fun z => decide (z ∉ allN Bl)) ++ if ms[i] ∈ allN Bl then [] else [ms[i]] := by
      rw [List.take_add_one, List.getElem?_eq_getElem hi, Option.toList_some, List.filter_append]
      congr 1
      by_cases q : ms[i] ∈ allN Bl
      · rw [if_pos q, List.filter_cons_of_neg (by simp [q])]; rfl
      · rw [if_neg q, List.filter_cons_of_pos (by simp [q])]; rfl
    refine ⟨rfl, ?_⟩
    by_cases q : ms[i] ∈ allN Bl
    · refine ⟨_, rfl, _, rfl, D1, strv (allN Bl), rfl, .inl (SqL.of (sa _ _ d3b)), rfl, flat_strs _, false, ?_, iteF ?_⟩
      · show V.bl (!inV _ _) = _
        rw [hin, decide_eq_true q]
        rfl
      · refine ⟨sa, B, ?_, da, hB2'⟩
        rw [etake, if_pos q, List.append_nil]
        exact hB1
    · refine ⟨_, rfl, _, rfl, D1, strv (allN Bl), rfl, .inl (SqL.of (sa _ _ d3b)), rfl, flat_strs _, true, ?_, iteT ?_⟩
      · show V.bl (!inV _ _) = _
        rw [hin, decide_eq_false q]
        rfl
      · refine ⟨_, rfl, by show 1 ≤ sizeLine; decide, fun p hp => ?_⟩
        have sp := same_at (o := .tup [V.str ms[i]]) hp
        have nD : D2 ≠ p := fun e => by rw [e, hp] at da; cases da
        refine ⟨_, sp _ _ da, ?_, fun c u e => ?_, B ++ [(p, [ms[i]])], ?_, ?_, fun x hx => ?_⟩
        · rw [List.length_map]
          exact Nat.lt_of_lt_of_le (show B.length < 60 by omega) (by decide)
        · rw [upd_ne (ne_of_none e hD2)]
          exact sp _ _ (sa _ _ e)
        · rw [etake, if_neg q, List.map_append, List.map_append, hB1]
          rfl
        · rw [upd_same, List.map_append]
          rfl
        · have nx : x.1 ≠ D2 := fun e => by
            rcases List.mem_append.mp hx with hx | hx
            · have := hB2' x hx
              rw [e, da] at this
              cases this
            · rw [List.mem_singleton.mp hx] at e
              exact nD e.symm
          rw [upd_ne nx]
          rcases List.mem_append.mp hx with hx | hx
          · exact sp _ _ (hB2' x hx)
          · rw [List.mem_singleton.mp hx]
            exact upd_same
  rintro H5 ⟨s5, A, hA1, d5, hA2⟩
  rw [hmsl, List.take_length] at hA1
  -- the blocks in order
  have s25 : Same H2 H5 := s3.trans (s4.trans s5)
  have ht5 := s25 _ _ ht2
  have hB5 := hB2.same s25
  have bl60 : Bl.length ≤ 60 := by
    have go : ∀ Bl : List (Addr × List Str), (∀ x ∈ Bl, x.2 ≠ []) → Bl.length ≤ (allN Bl).length := by
      intro Bl
      induction Bl with
      | nil => exact fun _ => Nat.le_refl _
      | cons x Bl ih =>
        intro h
        have h1 := ih fun y hy => h y (List.mem_cons_of_mem _ hy)
        have h2 : 0 < x.2.length := List.length_pos_iff.mpr (h x List.mem_cons_self)
        show Bl.length + 1 ≤ (x.2 ++ allN Bl).length
        rw [List.length_append]
        omega
    exact Nat.le_trans (go Bl fun x hx => (hB x hx).2) hl
  have yle : ∀ y ∈ Bl, y.2.length ≤ 60 := fun y hy => by
    obtain ⟨l1, l2, e⟩ := List.append_of_mem hy
    have : allN Bl = allN l1 ++ (y.2 ++ allN l2) := by rw [e]; unfold allN; rw [List.flatMap_append, List.flatMap_cons]
    rw [this, List.length_append, List.length_append] at hl
    omega
  refine ⟨_, rfl, t, rfl, ⟨_, SqT.of ht5⟩, fun D3 hD3 => ?_⟩
  refine lc_it (walk_tup (K := K) (a := t) (xs := Bl.map fun x => V.ref x.1)) (fun i H' => Same H5 H' ∧ ∃ S : List (Addr × List Str), S.length = i ∧ (∀ (j : Nat) (y z : Addr × List Str), Bl[j]? = some y → S[j]? = some z → z.2.Perm y.2 ∧ PyProof.Rows.sortedS z.2 = true) ∧ H' D3 = some (.lst (S.map fun x => V.ref x.1)) ∧ ∀ x ∈ S, H' x.1 = some (.tup (strv x.2))) ⟨same_at hD3, [], rfl, fun j y z _ e => by simp at e, upd_same, fun x hx => by cases hx⟩ (fun i H' _ p => SqT.of (p.1 _ _ ht5)) ?_ ?_
  · rintro i x Ho Ha hi ⟨sa, S, hS1, hS2, da, hS3⟩ ⟨rfl, hx⟩
    obtain ⟨y, hy, ey, rfl⟩ := at_ hx
    rw [hBl] at hi
    refine ⟨rfl, ?_⟩
    unfold tYes
    dsimp only
    rw [if_pos rfl]
    refine ⟨_, rfl, y.1, y.2, rfl, ((hB5.same sa) y hy).1.imp SqL.of SqT.of, Nat.lt_of_le_of_lt (yle y hy) (by decide), fun ys p hperm hso hp => ⟨p, ys.map V.str, rfl, .inl ⟨SqL.of upd_same, fun l hl' => ?_⟩⟩⟩
    have sp := same_at (o := .lst (ys.map V.str)) hp
    have sl := same_at (o := .tup (ys.map V.str)) hl'
    have sx := sp.trans sl
    have nD : D3 ≠ l := fun e => by rw [← e, sp _ _ da] at hl'; cases hl'
    refine ⟨_, sx _ _ da, ?_, fun c u e => ?_, S ++ [(l, ys)], ?_, fun j y' z ej ez => ?_, ?_, fun x hx => ?_⟩
    · rw [List.length_map, hS1]
      exact Nat.lt_of_lt_of_le (show i < 60 by omega) (by decide)
    · rw [upd_ne (ne_of_none e hD3)]
      exact sx _ _ (sa _ _ e)
    · rw [List.length_append, hS1]
      rfl
    · rcases Nat.lt_or_ge j S.length with hj | hj
      · rw [List.getElem?_append_left hj] at ez
        exact hS2 j y' z ej ez
      · rw [List.getElem?_append_right hj] at ez
        have ej0 : j - S.length = 0 := by
          rcases Nat.eq_zero_or_pos (j - S.length) with q | q
          · exact q
          · rw [List.getElem?_eq_none (by show 1 ≤ _; omega)] at ez
            cases ez
        have eji : j = i := by omega
        rw [ej0] at ez
        obtain rfl := Option.some.inj (show some (l, ys) = some z from ez)
        rw [eji, ey] at ej
        obtain rfl := Option.some.inj ej
        exact ⟨hperm, hso⟩
    · rw [upd_same, List.map_append]
      rfl
    · have nx : x.1 ≠ D3 := fun e => by
        rcases List.mem_append.mp hx with hx | hx
        · have := hS3 x hx
          rw [e, da] at this
          cases this
        · rw [List.mem_singleton.mp hx] at e
          exact nD e.symm
      rw [upd_ne nx]
      rcases List.mem_append.mp hx with hx | hx
      · exact sx _ _ (hS3 x hx)
      · rw [List.mem_singleton.mp hx]
        exact upd_same
  rintro H6 ⟨s6, S, hS1, hS2, d6, hS3⟩
  rw [hBl] at hS1
  have Sne : ∀ x ∈ S, x.2 ≠ [] := fun x hx e => by
    obtain ⟨j, hj, ej⟩ := List.getElem_of_mem hx
    have hj' : j < Bl.length := by omega
    have := (hS2 j Bl[j] x (List.getElem?_eq_getElem hj') (by rw [List.getElem?_eq_getElem hj, ej])).1
    rw [e] at this
    exact (hB _ (List.getElem_mem hj')).2 (List.nil_perm.mp this)
  have Ane : ∀ x ∈ A, x.2 ≠ [] := fun x hx e => by
    have : x.2 ∈ A.map (·.2) := List.mem_map.mpr ⟨x, hx, rfl⟩
    rw [hA1, e] at this
    obtain ⟨z, _, ez⟩ := List.mem_map.mp this
    cases ez
  have Ale : A.length ≤ 42 := by
    have := congrArg List.length hA1
    rw [List.length_map, List.length_map] at this
    rw [this]
    exact Nat.le_trans (List.length_filter_le _ _) hms42
  refine ⟨_, rfl, D3, D2, S.map fun x => V.ref x.1, A.map fun x => V.ref x.1, rfl, rfl, d6, s6 _ _ d5, ?_, fun D4 hD4 => ?_⟩
  · rw [List.length_map, List.length_map]
    exact Nat.le_trans (show S.length + A.length ≤ 102 by omega) (by decide)
  have s7 := same_at (o := .lst ((S.map fun x => V.ref x.1) ++ A.map fun x => V.ref x.1)) hD4
  refine ⟨D4, S ++ A, rfl, SqL.of (by rw [upd_same, List.map_append]), fun x hx => ?_, by rw [List.length_append]; omega, fun L p7 hL hLs hp7 => ?_⟩
  · rcases List.mem_append.mp hx with hx | hx
    · exact ⟨SqT.of (s7 _ _ (hS3 x hx)), Sne x hx⟩
    · exact ⟨SqT.of (s7 _ _ (s6 _ _ (hA2 x hx))), Ane x hx⟩
  have s8 := same_at (o := .lst (L.map fun x => V.ref x.1)) hp7
  refine ⟨p7, _, rfl, .inl ⟨SqL.of upd_same, fun B hB8 => ?_⟩⟩
  have s9 := same_at (o := .tup (L.map fun x => V.ref x.1)) hB8
  have s29 := s25.trans (((s6.trans s7).trans s8).trans s9)
  have s59 := ((s6.trans s7).trans s8).trans s9
  have p1 : (allN L).Perm (allN Bl ++ ms.filter fun z => decide (z ∉ allN Bl)) := by
    refine (allN_perm hL).trans ?_
    have e : allN (S ++ A) = allN S ++ allN A := List.flatMap_append
    rw [e, allN_ones hA1]
    exact (allN_rows hS1 hS2).append_right _
  have hLl102 : (allN L).length ≤ 102 := by
    rw [p1.length_eq, List.length_append]
    have := List.length_filter_le (fun z => decide (z ∉ allN Bl)) ms
    omega
  have hLn : (allN L).Nodup := by
    refine p1.nodup_iff.mpr (List.nodup_append.mpr ⟨hnd, ((hms.1.nodup_iff).mpr hmn).filter _, fun a ha b hb e => ?_⟩)
    have := (List.mem_filter.mp hb).2
    rw [← e] at this
    exact of_decide_eq_true this ha
  have Lat : ∀ x ∈ L, (upd (upd (upd H6 D4 (.lst ((S.map fun x => V.ref x.1) ++ A.map fun x => V.ref x.1))) p7 (.lst (L.map fun x => V.ref x.1))) B (.tup (L.map fun x => V.ref x.1))) x.1 = some (.tup (strv x.2)) ∧ x.2 ≠ [] := fun x hx => by
    have s69 := (s7.trans s8).trans s9
    rcases List.mem_append.mp (hL.mem_iff.mp hx) with hx | hx
    · exact ⟨s69 _ _ (hS3 x hx), Sne x hx⟩
    · exact ⟨s59 _ _ (hA2 x hx), Ane x hx⟩
  have hrows : RowsOf d Bl L := by
    refine ⟨ms, S.map (·.2), hms, by rw [List.length_map, hS1], fun i y z ey ez => ?_, ?_, hLs⟩
    · rw [List.getElem?_map] at ez
      cases q : S[i]? with
      | none => rw [q] at ez; cases ez
      | some x =>
        rw [q] at ez
        obtain rfl := Option.some.inj ez
        exact hS2 i y x ey q
    · have := hL.map (·.2)
      rw [List.map_append, hA1] at this
      exact this
  refine ⟨_, rfl, o, CB, dx, _, rfl, s29 _ _ o2, T.cl, T.nB, by show 1 < 1000; decide, ?_⟩
  have B9 : (upd (upd (upd H6 D4 (.lst ((S.map fun x => V.ref x.1) ++ A.map fun x => V.ref x.1))) p7 (.lst (L.map fun x => V.ref x.1))) B (.tup (L.map fun x => V.ref x.1))) B = some (.tup (L.map fun x => V.ref x.1)) := upd_same
  have o9 := s29 _ _ o2
  generalize (upd (upd (upd H6 D4 (.lst ((S.map fun x => V.ref x.1) ++ A.map fun x => V.ref x.1))) p7 (.lst (L.map fun x => V.ref x.1))) B (.tup (L.map fun x => V.ref x.1))) = H9 at s29 s59 Lat B9 o9 ⊢
  have nBo : B ≠ o := fun e => by rw [e, o9] at B9; cases B9
  obtain ⟨H10, e10⟩ : ∃ H10, H10 = upd H9 o (.ins CB dx (putF "_blocks" (.ref B) (putF "frame" (.ref f) []))) := ⟨_, rfl⟩
  rw [← e10]
  have o10 : H10 o = some (.ins CB dx (putF "_blocks" (.ref B) (putF "frame" (.ref f) []))) := by rw [e10, upd_same]
  have B10 : H10 B = some (.tup (L.map fun x => V.ref x.1)) := by rw [e10, upd_ne nBo]; exact B9
  have b10 : But H H10 o := fun b u hb e => by rw [e10, upd_ne hb]; exact s29 _ _ (b2 _ _ hb e)
  have L10 : ∀ x ∈ L, H10 x.1 = some (.tup (strv x.2)) ∧ x.2 ≠ [] := fun x hx => by
    have nx : x.1 ≠ o := fun e => by have := (Lat x hx).1; rw [e, o9] at this; cases this
    rw [e10, upd_ne nx]
    exact Lat x hx
  have hLl : (L.map fun x => V.ref x.1).length = L.length := List.length_map _
  refine ⟨_, rfl, o, CB, dx, _, _, rfl, o10, T.cl, T.nB, rfl, B, rfl, ⟨_, SqT.of B10⟩, fun D5 hD5 => ?_⟩
  have cut : ∀ {i : Nat} (hi : i < L.length), allN L = allN (L.take i) ++ (L[i].2 ++ allN (L.drop (i + 1))) := fun {i} hi => by
    have e : L = L.take i ++ (L[i] :: L.drop (i + 1)) := by rw [List.getElem_cons_drop, List.take_append_drop]
    have e2 : allN (L.take i ++ (L[i] :: L.drop (i + 1))) = allN (L.take i) ++ (L[i].2 ++ allN (L.drop (i + 1))) := by unfold allN; rw [List.flatMap_append, List.flatMap_cons]
    rw [← e2, ← e]
  refine DcTwo.turns_it (walk_tup (K := K) (a := B) (xs := L.map fun x => V.ref x.1)) (fun i H' => Same H10 H' ∧ ∃ hs, H' D5 = some (.dK hs) ∧ hs.length ≤ (allN (L.take i)).length ∧ ∀ x ∈ L.take i, ∀ z ∈ x.2, valV hs (Sum.inr z) = some (.ref x.1)) ⟨same_at hD5, [], upd_same, Nat.zero_le _, fun x hx => by cases hx⟩ (fun i H' _ p => SqT.of (p.1 _ _ B10)) ?_ ?_
  · rintro i x Ho Ha hi ⟨sa, hs, da, hsl, hsv⟩ ⟨rfl, hx⟩
    rw [hLl] at hi
    have ex : (L.map fun x => V.ref x.1)[i]? = some (.ref L[i].1) := by rw [List.getElem?_map, List.getElem?_eq_getElem hi]; rfl
    rw [ex] at hx
    obtain rfl := Option.some.inj hx
    refine ⟨rfl, ?_⟩
    unfold tYes
    dsimp only
    rw [if_pos rfl]
    have hrow := (L10 _ (List.getElem_mem hi)).1
    have hcut := cut hi
    have hnc := hLn
    rw [hcut] at hnc
    have hlc := hLl102
    rw [hcut, List.length_append, List.length_append] at hlc
    have hdis := (List.nodup_append.mp hnc).2.2
    have hzl : (strv L[i].2).length = L[i].2.length := List.length_map _
    have etk : L.take (i + 1) = L.take i ++ [L[i]] := by rw [List.take_add_one, List.getElem?_eq_getElem hi]; rfl
    refine ⟨_, rfl, L[i].1, rfl, ⟨_, SqT.of (sa _ _ hrow)⟩, ?_⟩
    refine DcTwo.turns_it (walk_tup (K := K) (a := L[i].1) (xs := strv L[i].2)) (fun j H' => Same H10 H' ∧ ∃ hs, H' D5 = some (.dK hs) ∧ hs.length ≤ (allN (L.take i)).length + j ∧ (∀ x ∈ L.take i, ∀ z ∈ x.2, valV hs (Sum.inr z) = some (.ref x.1)) ∧ ∀ z ∈ L[i].2.take j, valV hs (Sum.inr z) = some (.ref L[i].1)) ⟨sa, hs, da, hsl, hsv, fun z hz => by rw [List.take_zero] at hz; cases hz⟩ (fun j H' _ p => SqT.of (p.1 _ _ hrow)) ?_ ?_
    · rintro j x Hb Hc hj ⟨sb, gs, db, hgl, hg1, hg2⟩ ⟨rfl, hx⟩
      rw [hzl] at hj
      have exj : (strv L[i].2)[j]? = some (.str L[i].2[j]) := by show (L[i].2.map V.str)[j]? = _; rw [List.getElem?_map, List.getElem?_eq_getElem hj]; rfl
      rw [exj] at hx
      obtain rfl := Option.some.inj hx
      refine ⟨rfl, ?_⟩
      dsimp only
      rw [if_pos rfl]
      refine ⟨_, rfl, _, rfl, gs, Sum.inr L[i].2[j], rfl, db, ?_, fun c u e => ?_, _, upd_same, ?_, fun x hx z hz => ?_, fun z hz => ?_⟩
      · exact Nat.lt_of_lt_of_le (show gs.length < 1000 by omega) (by decide)
      · rw [upd_ne (ne_of_none e hD5)]
        exact sb _ _ e
      · have := length_putK gs (Sum.inr L[i].2[j]) (V.ref L[i].1)
        omega
      · rw [valV_put]
        have ne : ¬ (Sum.inr z : Key) = Sum.inr L[i].2[j] := fun q => by
          injection q with q
          exact hdis z (List.mem_flatMap.mpr ⟨x, hx, hz⟩) L[i].2[j] (List.mem_append_left _ (List.getElem_mem hj)) q
        rw [if_neg ne]
        exact hg1 x hx z hz
      · rw [valV_put]
        by_cases q : (Sum.inr z : Key) = Sum.inr L[i].2[j]
        · rw [if_pos q]
        · rw [if_neg q]
          rw [List.take_add_one, List.getElem?_eq_getElem hj] at hz
          rcases List.mem_append.mp hz with hz | hz
          · exact hg2 z hz
          · exact absurd (by rw [show z = L[i].2[j] from List.mem_singleton.mp hz]) q
    · rintro Hb ⟨sb, gs, db, hgl, hg1, hg2⟩
      rw [hzl] at hgl hg2
      rw [List.take_length] at hg2
      refine ⟨sb, gs, db, ?_, fun x hx z hz => ?_⟩
      · have e : allN (L.take (i + 1)) = allN (L.take i) ++ L[i].2 := allN_snoc (List.getElem?_eq_getElem hi)
        rw [e, List.length_append]
        exact hgl
      · rw [etk] at hx
        rcases List.mem_append.mp hx with hx | hx
        · exact hg1 x hx z hz
        · rw [List.mem_singleton.mp hx] at hz ⊢
          exact hg2 z hz
  rintro H11 ⟨s11, hs, d11, hsl, hsv⟩
  rw [hLl, List.take_length] at hsv
  have o11 := s11 _ _ o10
  refine ⟨_, rfl, o, CB, dx, _, rfl, o11, T.cl, T.nH, by show 2 < 1000; decide, ?_⟩
  have ne : ∀ {b : Addr} {u : HO}, H11 b = some u → (∀ C dy fs, u ≠ .ins C dy fs) → b ≠ o := fun {b u} e hu q => by
    rw [q, o11] at e
    exact hu _ _ _ (Option.some.inj e).symm
  refine k _ L hrows ⟨dx, B, D5, hs, upd_same, ?_, fun x hx => ⟨?_, (L10 x hx).2⟩, ?_, hsv⟩ fun b u hb e => ?_
  · rw [upd_ne nBo]
    exact s11 _ _ B10
  · have e := s11 _ _ (L10 x hx).1
    rw [upd_ne (ne e fun _ _ _ q => by cases q)]
    exact e
  · rw [upd_ne (ne d11 fun _ _ _ q => by cases q)]
    exact d11
  · rw [upd_ne hb]
    exact s11 _ _ (b10 _ _ hb e)
end
end Sj
namespace Sj
open PySem L2 Sup StK Own Shw Exg Grd KepE
/-! Board.__init__ as a def with a star -/
def spBoS (K : PySem.W.Frag) (ks : Kinds) (CF CB : Addr) : Sp := fun vs H Q E => ∃ ws rest, vs = ws ++ rest ∧ ws.length = (["self", "frame"] : List Str).length ∧ rest.length ≤ sizeLine ∧ ∀ p, H p = none → spBoI K ks CF CB (ws ++ [.ref p]) (upd H p (.tup rest)) Q E
theorem fnr_boI {P : Program} {w : World} {K : PySem.W.Frag} {mg : Str → Option Value} {base : Heap} {CI fI CF CB f : Addr} {fd : FuncData} {ks : Kinds} (F : FunD K "__init__" "Board.__init__" (defArgs sBoI) (defBody sBoI) (defScope sBoI) [] [] f fd) (T : BoT P w K mg base ks CF CI fI CB) :
    FnR P w K mg base (L2.CX P w) 5 f (spBoS K ks CF CB) := by
  obtain ⟨oc, od, dV, kV, doc, pm, an, cdv, ct, osl, rfl, lk, hcd, hD, hK⟩ := F.ex
  rcases hD with ⟨_, rfl⟩ | ⟨e, _⟩
  case inr => exact absurd rfl e
  refine StX.fn_star (pv := "blocks") (ps := ["self", "frame"]) lk hcd scBoI StX.cxUp (fun us rest h => ?_) fun A outer s H vs Q E hr h => body_boI T cdv A outer s H vs Q E hr h
  exact StX.bind_star2 (B := fun l => bindArgs _ ⟨l, []⟩) (fun a b => rfl) (fun a b r rs => rfl) us rest h
end Sj
namespace Sj
open PySem L2 Sup StK Own Shw Exg Grd KepE
/-! a board is made -/
/-- what is asked of blocks that make a board of the frame -/
structure PartOf (ks : Kinds) (CF : Addr) (H : Hp) (f : Addr) (d : FrD) (Bl : List (Addr × List Str)) : Prop where
  fr : FrIs ks CF H f d
  at_ : BlkAt H Bl
  mem : ∀ z ∈ allN Bl, z ∈ membZ d
  nd : (allN Bl).Nodup
  mn : (membZ d).Nodup
  le : (allN Bl).length ≤ 60
  gp : ∀ x ∈ Bl, ¬ (("ground" : Str) ∈ x.2 ∧ ("power" : Str) ∈ x.2)
theorem PartOf.same {ks : Kinds} {CF : Addr} {H H' : Hp} {f : Addr} {d : FrD} {Bl : List (Addr × List Str)} (h : PartOf ks CF H f d Bl) (s : Same H H') : PartOf ks CF H' f d Bl := ⟨h.fr.same s, h.at_.same s, h.mem, h.nd, h.mn, h.le, h.gp⟩
theorem blk_le {Bl : List (Addr × List Str)} (h : ∀ x ∈ Bl, x.2 ≠ []) : Bl.length ≤ (allN Bl).length := by
  induction Bl with
  | nil => exact Nat.le_refl _
  | cons x Bl ih =>
    have h1 := ih fun y hy => h y (List.mem_cons_of_mem _ hy)
    have h2 : 0 < x.2.length := List.length_pos_iff.mpr (h x List.mem_cons_self)
    show Bl.length + 1 ≤ (x.2 ++ allN Bl).length
    rw [List.length_append]
    omega
theorem mk_bo {K : PySem.W.Frag} {ks : Kinds} {CF CB f x dx : Addr} {d : FrD} {Bl : List (Addr × List Str)} {H : Hp} {Q : VK} {E : XK} (p : PartOf ks CF H f d Bl) (hx : H x = none) (hdx : H dx = none) (hne : dx ≠ x)
    (k : ∀ H' L, RowsOf d Bl L → BoAt H' x CB f L → Same H H' → Q .non H') : spBoS K ks CF CB (V.ref x :: .ref f :: Bl.map fun y => V.ref y.1) (upd (upd H dx (.own x)) x (.ins CB dx [])) Q E := by
  have s1 : Same H (upd (upd H dx (.own x)) x (.ins CB dx [])) := fun b o e => by
    rw [upd_ne (ne_of_none e hx), upd_ne (ne_of_none e hdx)]
    exact e
  have bl := blk_le fun y hy => (p.at_ y hy).2
  refine ⟨[.ref x, .ref f], Bl.map fun y => V.ref y.1, rfl, rfl, ?_, fun t ht => ?_⟩
  · rw [List.length_map]
    exact Nat.le_trans (Nat.le_trans bl p.le) (by decide)
  have hxt : x ≠ t := ne_of_none upd_same ht
  have s2 := s1.trans (same_at (o := .tup (Bl.map fun y => V.ref y.1)) ht)
  have q := p.same s2
  refine ⟨x, dx, f, t, d, Bl, rfl, by rw [upd_ne hxt, upd_same], q.fr, upd_same, q.at_, q.mem, q.nd, q.mn, q.le, q.gp, fun H' L hL hB hb => k H' L hL hB fun b o e => ?_⟩
  exact hb b o (ne_of_none e hx) (s2 _ _ e)
end Sj
/-! a lambda handed to a def, where it is known that nothing is being shown -/
namespace LamX
open PySem PySem.Spec PyProof.Rows L2
section
variable {X : Cx} {pins : List (Addr × Obj)} {τ : L2.St} {H HZ : Hp} {s sB : Shared}
abbrev lamQ (X : Cx) : Str := X.env.qual ++ "<lambda>"
abbrev lamO (X : Cx) (ar : Arguments) (e : Expr) (sc : Scope) (pm : Value) (c' : Addr) (ct : Value) : Obj := PySem.W.kla_obj "<lambda>" (lamQ X) ar e sc (cloFrom X.env.cells sc.names []) pm c' ct
/-- the lambda at f runs under B -/
theorem lam_runG {B : Around} {st : List Env} {E : XK} {ar : Arguments} {e : Expr} {sc : Scope} {k : Nat} {f c' : Addr} {pm ct : Value} {tb : TE} {Q : VK} (I : Inv X pins τ H s) (L : LamS X.env.scope sc) (at_ : sB.heap.get? f = some (lamO X ar e sc pm c' ct))
    (nb : bindArgs (PySem.W.kla_fn "<lambda>" (lamQ X) ar e sc (cloFrom X.env.cells sc.names []) pm (.ref c') ct) ⟨[], []⟩ = pure []) (rm : Room (k + 1) B) (e0 : Env0 X.prog X.w X.K X.mg X.base B st sB HZ) (un : Un (frs X.stack) [] H HZ s.heap sB.heap) (nl : sB.heap.NoLimit)
    (hC : ∃ (oc : Obj) (vs : Array Value) (t : Tok), sB.heap.get? c' = some oc ∧ oc.data = .fields vs ∧ vs[1]? = some (.str (lamQ X) t))
    (hb : Room k (B.deeper (lamEnv X sc sB.heap.objs.size f c')) → PE (lamCx X B st sB HZ E sc f c') e tb) (ht : tb τ HZ Q) :
    codeAny (model X.prog X.w) B (.call (.ref f) ⟨[], []⟩) (CR (L2.CX X.prog X.w) st X.prog X.w HZ sB Q E) sB := by
  obtain ⟨oc, vs, t, z1, z2, z3⟩ := hC
  refine PySem.W.kla_callFunE rm.depth at_ rfl L.co L.gen rfl ⟨c', oc, vs, t, rfl, z1, z2, z3⟩ ?_
  rw [nb]
  refine wpAny_pure (wpAny_newFunctionEnv (fun y hy => (L.own y hy).2) (fun y hy => nomatch hy) (fun h1 fresh same => ⟨nl.fresh _ same, ?_⟩) L.kind)
  have keep : ∀ b o, sB.heap.get? b = some o → h1.get? b = some o := by
    intro b o q
    exact same.extBut b o (Nat.ne_of_lt (Heap.lt_size q)) (Heap.get?_push_of_some _ q)
  have J : Inv (lamCx X B st sB HZ E sc f c') [] τ HZ _ := lam_start2 (tk := sB.toks + ([] : List (Str × Value)).length) I L e0 rm.hd un fresh keep
  show codeAny _ _ (.expr e (lamEnv X sc sB.heap.objs.size f c')) _ _
  refine PySem.W.kla_codeExpr (wpAny_mono ((hb (rm.deeper _)).run [] _ _ HZ Q J ht) ?_ fun _ _ z => z)
  rintro v s' ⟨x, H', J', rv, q⟩
  exact ⟨x, H', J'.os, J'.bare, J'.base, J'.hok, rv, q⟩
/-- what stands around the def that got the lambda -/
abbrev inG (X : Cx) (qg : Str) (sg : Scope) (n : Nat) (g : Addr) (cdg : Value) : Around := X.A.deeper (envOfC qg sg n g cdg)
/-- there, x() -/
theorem pe_actG {CXg : CXT} {Eg E : XK} {Ng : List Str} {qg a : Str} {sg sc : Scope} {g f c' : Addr} {cdg pm ct : Value} {ar : Arguments} {e : Expr} {k : Nat} {pn : List (Addr × Obj)} {xe : Value → Shared → Prop} {W : WX} {tb : TE} {p1 p2 : Pos}
    (I : Inv X pins τ H s) (L : LamS X.env.scope sc) (at_ : s.heap.get? f = some (lamO X ar e sc pm c' ct)) (new : H f = none) (nofr : f ∉ frs X.stack)
    (nb : bindArgs (PySem.W.kla_fn "<lambda>" (lamQ X) ar e sc (cloFrom X.env.cells sc.names []) pm (.ref c') ct) ⟨[], []⟩ = pure [])
    (tk : Takes ((cxOf CXg X.prog X.w X.K X.mg X.base Ng qg sg g cdg X.A X.stack s H Eg).tr pn xe) W) (hW : ∀ cls d σ' H', E cls d H' → W cls d σ' H') (rm : Room (k + 1) (inG X qg sg s.heap.objs.size g cdg))
    (hb : ∀ (st : List Env) (s1 : Shared) (H1 : Hp), Room k ((inG X qg sg s.heap.objs.size g cdg).deeper (lamEnv X sc s1.heap.objs.size f c')) → PE (lamCx X (inG X qg sg s.heap.objs.size g cdg) st s1 H1 E sc f c') e tb)
    (h0 : Ng[0]? = some a) (hv : Vis sg a) (hd : (a == ("__debug__" : Str)) = false) (hcd : (a == ("__classdict__" : Str)) = false) :
    PE ((cxOf CXg X.prog X.w X.K X.mg X.base Ng qg sg g cdg X.A X.stack s H Eg).tr pn xe) (.Call (.Name a p1) [] [] p2)
      (fun σ1 H1 Q => σ1[0]? = some (some (.ref f)) ∧ H1 c' = some (CodeO c' (lamQ X)) ∧ tb τ H1 Q) := by
  refine ⟨fun pins1 s1 σ1 H1 Q I1 ⟨hs, hc, ht⟩ => ?_⟩
  have rd := (pe_var (pos := p1) (i := 0) h0 hv hd hcd).run pins1 s1 σ1 H1 (fun v H2 => v = .ref f ∧ H2 = H1) I1 ⟨.ref f, hs, rfl, rfl⟩
  refine wpAny_Call_Name_kw (thn rd ?_)
  rintro u s2 ⟨v, H2, I2, r2, rfl, rfl⟩
  obtain rfl : u = Value.ref f := r2
  have at2 := I2.base.keep f _ at_ new nofr (fun z => nomatch (show f ∈ ([] : List Addr) from z))
  refine PySem.W.callWith_F0 ⟨_, _, _, _, at2⟩ ?_
  obtain ⟨hC, _, _⟩ := I2.hok c' _ hc
  have run := lam_runG (Q := Q) (E := E) I L at2 nb rm I2.env0 I2.base I2.nolimit hC (hb _ _ _) ht
  have pass : Passes (L2.CX X.prog X.w) ((cxOf CXg X.prog X.w X.K X.mg X.base Ng qg sg g cdg X.A X.stack s H Eg).tr pn xe) E := passes_call tk hW
  refine wpAny_call (codeAny_mono run fun r s3 q => ?_)
  match r, q with
  | .error z, q => exact pass pins1 σ1 _ s2 z s3 I2 q
  | .ok (.ret u), q => exact I2.after q
/-- x(lambda: e), nothing being shown -/
theorem pe_lamcallG {T : List (Addr × Str)} {TT : (XK → Hp → VK → Prop) → Hp → VK → Prop} {x a : Str} {g c P : Addr} {k : Nat} {pg ar : Arguments} {bg : List Stmt} {sg sc : Scope} {dV kV doc pm cdv ct oc : Value} {an od : Option Addr} {osl : Array (Option Value)} {Ng : List Str} {e : Expr} {t : XK → TE} {p lpos pos : Pos}
    (hg : Gl X x) (hm : X.mg x = some (.ref g)) (hk : PySem.W.keepIn X.K (.ref g) = true) (lk : X.K.lookup g = some ⟨oc, od, .func (PySem.W.fnOf x x pg bg sg dV kV doc pm an cdv ct), osl⟩) (hcg : PySem.W.codeIn X.K cdv x = true)
    (hb : L2.Binds X.K (PySem.W.fnOf x x pg bg sg dV kV doc pm an cdv ct) [a] []) (Sg : FnScope Ng [a] sg) (h0 : Ng[0]? = some a) (hva : Vis sg a) (hG : GivesTo X Ng x sg g cdv bg a (lamQ X) TT)
    (TB : TabB X.base X.mg c P) (hcode : X.env.code = .ref c) (hmT : (P, lamQ X) ∈ T) (hu : ∀ p ∈ T, p.1 = P → p.2 = lamQ X) (hgu : X.A.guards = some []) (rm : Room (k + 2) X.A) (L : LamS X.env.scope sc) (hdef : defaultsOf ar X.env = ([], []))
    (nb : ∀ (q : Str) (cl : List (Str × Addr)) (pm cv ct : Value), bindArgs (PySem.W.kla_fn "<lambda>" q ar e sc cl pm cv ct) ⟨[], []⟩ = pure [])
    (hbody : ∀ (B : Around) (st : List Env) (s1 : Shared) (H1 : Hp) (E : XK) (f c' : Addr), B.guards = some [] → Room k (B.deeper (lamEnv X sc s1.heap.objs.size f c')) → PE (lamCx X B st s1 H1 E sc f c') e (t E))
    (hdb : (x == ("__debug__" : Str)) = false := by decide) (hd : (a == ("__debug__" : Str)) = false := by decide) (hcd : (a == ("__classdict__" : Str)) = false := by decide) :
    PE X (.Call (.Name x p) [.Lambda ar e sc lpos] [] pos) (tLam T TT t) := by
  refine ⟨fun pins s σ H Q I ⟨hT, h⟩ => ?_⟩
  refine wpAny_Call_Name_kw (ld_glob I hg hm ?_ hdb)
  refine PySem.W.callWith_K (h₀ := X.base) I.ok.mod.kin hk ?_ (by rfl) (by rfl)
  have one : backTo pos (starEach [.Lambda ar e sc lpos] X.env) = (false, eval (.Lambda ar e sc lpos) X.env) :: backTo pos (starEach [] X.env) := rfl
  rw [one]
  refine Calls.spliced_cons (lam_make2 I TB hcode hmT hu hT hdef (L.has I.ok) ?_)
  intro f c' pm' ct' H1 s' I1 eN T1 at_ new nofr hco
  refine Calls.spliced_nil ⟨I1.kIn, ?_⟩
  have run : codeAny (model X.prog X.w) X.A (.call (.ref g) ⟨[.ref f], []⟩) (CR C8.CX0 X.stack X.prog X.w H1 s' Q C8.E0) s' := by
    refine run_ofS (N := Ng) (ps := [a]) (us := [.ref f]) (vs := [.ref f]) lk hcg Sg rm I1.env0 (hb s' [.ref f] I1.kIn rfl) (.cons rfl .nil) rfl fun rm' => ?_
    obtain ⟨t', ht', hq'⟩ := hG f c' s' H1 Q (fun E H' Q' => t E σ H' Q')
      (fun W pn xe E p1 p2 tk hW => pe_actG I1 L at_ new nofr (nb _ _ _ _ _) tk hW rm' (fun st s1 H1 r => hbody _ st s1 H1 E f c' hgu r) h0 hva hd hcd) hco (h H1 eN T1)
    exact ⟨t', ht'.nox, hq'⟩
  refine wpAny_call (codeAny_mono run fun r s2 q => ?_)
  match r, q with
  | .error z, q => exact (show False from q).elim
  | .ok (.ret u), q => exact I1.after q
end
end LamX
/-! def f(a, *v) of which more is known: that nothing is being shown around it; o.m(e, ..), o.m() of such a def -/
namespace Grd
open PySem PySem.Spec PyProof.Rows L2
open StX
/-- a promise by positional values, asked where nothing is being shown -/
def FnGR (P : Program) (w : World) (K : PySem.W.Frag) (mg : Str → Option Value) (base : Heap) (CX : CXT) (k : Nat) (f : Addr) (sp : Sp) : Prop :=
  ∀ (A : Around) (outer : List Env) (s : Shared) (H : Hp) (us : List Value) (vs : List V) (Q : VK) (E : XK), A.guards = some [] → Room k A → Env0 P w K mg base A outer s H → Vals vs us → sp vs H Q E →
    codeAny (model P w) A (.call (.ref f) ⟨us, []⟩) (CR CX outer P w H s Q E) s
section
variable {P : Program} {w : World} {K : PySem.W.Frag} {mg : Str → Option Value} {base : Heap} {CX : CXT} {j k : Nat} {f : Addr} {sp sp' : Sp} {N ps : List Str} {name qual : Str} {params : Arguments} {body : List Stmt} {scope : Scope} {dV kV doc pm cdv ct oc : Value} {an od : Option Addr}
  {osl : Array (Option Value)}
theorem FnGR.mono (F : FnGR P w K mg base CX j f sp) (h : j ≤ k) : FnGR P w K mg base CX k f sp := fun A outer s H us vs Q E hg hr => F A outer s H us vs Q E hg (hr.mono h)
end
end Grd
/-! o.m(*y) of a def with a star; a promise with its binding, by place (where nothing is being shown) -/
namespace Grd
open PySem PySem.Spec PyProof.Rows L2
open StX
end Grd
namespace Sj
open PySem L2 Sup StK Own Shw Exg Grd KepE LamX
open NdefX (NF NScope ncx envF startF nscope_by)
open C8 (pss_cut tCut)
/-! what stays behind a lambda -/
section
variable {K : PySem.W.Frag} {ks : Kinds} {CF : Addr} {H H' : Hp}
theorem sqL_ext {a : Addr} {xs : List V} (h : SqL K H a xs) (s : ExtN H H') : SqL K H' a xs := by
  rcases h with (h | ⟨o, h⟩) | h
  · exact .inl (.inl (s _ _ h fun ps z => by cases z))
  · exact .inl (.inr ⟨o, s _ _ h fun ps z => by cases z⟩)
  · exact .inr h
theorem sqT_ext {a : Addr} {xs : List V} (h : SqT K H a xs) (s : ExtN H H') : SqT K H' a xs := by
  rcases h with (h | ⟨o, h⟩) | h
  · exact .inl (.inl (s _ _ h fun ps z => by cases z))
  · exact .inl (.inr ⟨o, s _ _ h fun ps z => by cases z⟩)
  · exact .inr h
theorem tyx_ext {x : V} {t : Value} (h : TyX K H x t) (s : ExtN H H') : TyX K H' x t := by
  cases h with
  | base b =>
    refine .base ?_
    cases b with
    | non => exact .non
    | bl x => exact .bl x
    | int i => exact .int i
    | str x => exact .str x
    | flt x => exact .flt x
    | lst e => exact .lst (s _ _ e fun ps z => by cases z)
    | frz e => exact .frz (s _ _ e fun ps z => by cases z)
    | tup e => exact .tup (s _ _ e fun ps z => by cases z)
    | dK e => exact .dK (s _ _ e fun ps z => by cases z)
    | dT e => exact .dT (s _ _ e fun ps z => by cases z)
    | ins e c h1 h2 h3 h4 => exact .ins (s _ _ e fun ps z => by cases z) c h1 h2 h3 h4
  | byt b => exact .byt b
  | set e => exact .set (s _ _ e fun ps z => by cases z)
  | kList e c => exact .kList e c
  | kTuple e c => exact .kTuple e c
  | kDict e c => exact .kDict e c
  | fTuple e => exact .fTuple (s _ _ e fun ps z => by cases z)
  | fDict e => exact .fDict (s _ _ e fun ps z => by cases z)
theorem LegR.ok.ext {r : LegR} (h : r.ok ks H) (s : ExtN H H') : r.ok ks H' := by
  obtain ⟨h1, dx, e⟩ := h
  exact ⟨h1, dx, s _ _ e fun ps z => by cases z⟩
theorem FrIs.ext {a : Addr} {d : FrD} (h : FrIs ks CF H a d) (s : ExtN H H') : FrIs ks CF H' a d := by
  obtain ⟨dx, D, h1, h2, h3⟩ := h.at_
  exact ⟨⟨dx, D, s _ _ h1 (fun ps z => by cases z), s _ _ h2 (fun ps z => by cases z), h3⟩, fun r hr => (h.ok r hr).ext s, h.nd, h.le, h.so⟩
theorem LegR.ok.butq {r : LegR} {q : Addr} {xs : List V} (h : r.ok ks H) (hq : H q = some (.lst xs)) (b : But H H' q) : r.ok ks H' := by
  obtain ⟨h1, dx, h2⟩ := h
  exact ⟨h1, dx, b _ _ (ne_of h2 hq (by intro z; cases z)) h2⟩
theorem FrIs.butq {a q : Addr} {d : FrD} {xs : List V} (h : FrIs ks CF H a d) (hq : H q = some (.lst xs)) (b : But H H' q) : FrIs ks CF H' a d := by
  obtain ⟨dx, D, h1, h2, h3⟩ := h.at_
  exact ⟨⟨dx, D, b _ _ (ne_of h1 hq (by intro z; cases z)) h1, b _ _ (ne_of h2 hq (by intro z; cases z)) h2, h3⟩, fun r hr => (h.ok r hr).butq hq b, h.nd, h.le, h.so⟩
theorem BareAt.ext {b p : Addr} {d : BareD} (h : BareAt H b d p) (s : ExtN H H') : BareAt H' b d p := by
  obtain ⟨dl, ll, rl, h1, h2, h3, h4, h5⟩ := h.ex
  exact ⟨dl, ll, rl, s _ _ h1 (fun ps z => by cases z), s _ _ h2 (fun ps z => by cases z), s _ _ h3 (fun ps z => by cases z), s _ _ h4 (fun ps z => by cases z), h5⟩
theorem Pen.ext {p l : Addr} {cs : List Int} {n : Nat} (h : Pen H p l cs n) (s : ExtN H H') : Pen H' p l cs n := by
  obtain ⟨i, g, h1, h2, h3⟩ := h
  exact ⟨i, g, s _ _ h1 (fun ps z => by cases z), s _ _ h2 (fun ps z => by cases z), h3⟩
theorem tabs_but {T : List (Addr × Str)} {p : Addr} {xs : List V} (h : Tabs T H) (hp : H p = some (.lst xs)) (b : But H H' p) : Tabs T H' := fun q hq => by
  obtain ⟨ps, h1, h2, h3⟩ := h q hq
  refine ⟨ps, b _ _ (ne_of h1 hp (by intro z; cases z)) h1, h2, fun pos cv hc => ?_⟩
  obtain ⟨c, e1, e2⟩ := h3 pos cv hc
  refine ⟨c, e1, b _ _ (ne_of e2 hp fun z => ?_) e2⟩
  unfold CodeO at z
  cases z
end
/-- a def whose code object is named -/
theorem fun_gC {P : Program} {w : World} {K : PySem.W.Frag} {mg : Str → Option Value} {base : Heap} {k : Nat} {f : Addr} {N ps : List Str} {sp : Sp} {x qual : Str} {st : Stmt} {oc kV doc pm cdv ct : Value} {od an : Option Addr} {osl : Array (Option Value)}
    (lk : K.lookup f = some ⟨oc, od, .func (PySem.W.fnOf x qual (defArgs st) (defBody st) (defScope st) .none kV doc pm an cdv ct), osl⟩) (hcd : PySem.W.codeIn K cdv qual = true) (S : FnScope N ps (defScope st)) (len : ∀ vs H Q E, sp vs H Q E → vs.length = ps.length)
    (hbody : ∀ (A : Around) (outer : List Env) (s : Shared) (H : Hp) (vs : List V) (Q : VK) (E : XK), A.guards = some [] → Room k (A.deeper (PyProof.Rows.envOfC qual (defScope st) s.heap.objs.size f cdv)) → sp vs H Q E →
      ∃ t, PSs (cxOf CX0 P w K mg base N qual (defScope st) f cdv A outer s H E).nox (defBody st) t ∧ t { nx := fun _ H' => Q .non H', rt := Q } (start N vs) H) : FnG P w K mg base CX0 (k + 1) f (PySem.W.fnOf x qual (defArgs st) (defBody st) (defScope st) .none kV doc pm an cdv ct) ps sp := by
  refine ⟨len, fun A outer s H args us vs Q E hg hr e0 hb r hsp => ?_⟩
  refine LamX.run_ofS (CX := CX0) lk hcd S hr e0 hb r (len _ _ _ _ hsp) fun hr1 => ?_
  obtain ⟨t, ht, hq⟩ := hbody A outer s H vs Q E hg hr1 hsp
  exact ⟨t, ht.nox, hq⟩
/-- a def of the module, by its name -/
def Fi (P : Program) (w : World) (K : PySem.W.Frag) (mg : Str → Option Value) (base : Heap) (x : Str) (k : Nat) (ps : List Str) (sp : Sp) : Prop := ∃ f fd, mg x = some (.ref f) ∧ PySem.W.keepIn K (.ref f) = true ∧ Binds K fd ps [] ∧ FnOk P w K mg base CX0 k f fd ps sp
theorem takesLen {X : Cx} {W : WX} {n : Nat} (hn : X.N.length = n) (tk : Takes X W) : Takes X (fun cls d σ H => σ.length = n → W cls d σ H) := fun u s' ⟨a, B, sI, pins, σ, H, cls, d, e, I, nb, up, sky, na, os, ag, w⟩ =>
  tk u s' ⟨a, B, sI, pins, σ, H, cls, d, e, I, nb, up, sky, na, os, ag, w (I.len.trans hn)⟩
end Sj
namespace Sj
open PySem L2 Sup StK Own Shw Exg Grd KepE LamX
open NdefX (NF NScope ncx envF startF nscope_by)
open C8 (pss_cut tCut)
/-! k67: _law_heard, over a lambda -/
abbrev sHea : Stmt := top 63
abbrev nHea : List Str := ["_law_ask", "_law_caught", "error"]
theorem scHea : FnScope nHea ["_law_ask"] (defScope sHea) := ⟨rfl, rfl, rfl, by decide +kernel, rfl, by decide +kernel, by decide +kernel⟩
/-- InvalidBoard or InvalidHurt is raised, and its reason told -/
inductive HeaX (CI CJ : Addr) (Q : VK) : XK
  | board {dd : Addr} {z : Str} {H' : Hp} (h : H' dd = some (.xd [("reason", .str z)])) (l : z.length ≤ 100) (k : ∀ H2, Same H' H2 → Q (.str (("board " : Str) ++ z)) H2) : HeaX CI CJ Q (.ref CJ) (some dd) H'
  | hurt {dd : Addr} {z : Str} {H' : Hp} (h : H' dd = some (.xd [("reason", .str z)])) (l : z.length ≤ 100) (k : ∀ H2, Same H' H2 → Q (.str (("hurt " : Str) ++ z)) H2) : HeaX CI CJ Q (.ref CI) (some dd) H'
def TThea (CI CJ : Addr) : (XK → Hp → VK → Prop) → Hp → VK → Prop := fun tl H Q => tl (HeaX CI CJ Q) H (fun _ H' => Q .non H')
structure HeT (K : PySem.W.Frag) (mg : Str → Option Value) (CE CI CJ : Addr) : Prop where
  mE : mg "JoinError" = some (.ref CE)
  mI : mg "InvalidHurt" = some (.ref CI)
  mJ : mg "InvalidBoard" = some (.ref CJ)
  mV : mg "ValueError" = none
  isi : mg "isinstance" = none
  str : mg "str" = none
  exI : PySem.W.exmOne K (.ref CI) (.ref CE) = some true
  exJ : PySem.W.exmOne K (.ref CJ) (.ref CE) = some true
  keI : KeT K CI
  keJ : KeT K CJ
  noI : PySem.W.findIn K (.ref CI) "reason" = some none
  noJ : PySem.W.findIn K (.ref CJ) "reason" = some none
  ii : PySem.W.kitOne K (.ref CI) (.ref CI) = some true
  iv : PySem.W.kitOne K (.ref CI) (.type "ValueError") = some true
  jj : PySem.W.kitOne K (.ref CJ) (.ref CJ) = some true
  ij : PySem.W.kitOne K (.ref CI) (.ref CJ) = some false
  ji : PySem.W.kitOne K (.ref CJ) (.ref CI) = some false
section
variable {X : Cx}
theorem heard_gives {g CE CI CJ : Addr} {cdg : Value} {q : Str} (T : HeT X.K X.mg CE CI CJ) : GivesTo X nHea "_law_heard" (defScope sHea) g cdg (defBody sHea) "_law_ask" q (TThea CI CJ) := by
  intro f c' s H Q tl act hc h
  refine ⟨_, pss_cons (ps_set (X := (cxOf C8.CX0 X.prog X.w X.K X.mg X.base nHea "_law_heard" (defScope sHea) g cdg X.A X.stack s H C8.E0).nox) (i := 1) scHea.nd rfl (Or.inl rfl) pe_non)
    (pss_cons (ps_try_keep (i := 2) (j := 1) (c := .ref CE)
      (tb := fun W D σ H => ∃ Ech : XK, (∀ cls d σ' H', Ech cls d H' → σ'.length = 3 → W cls d σ' H') ∧ σ[0]? = some (some (.ref f)) ∧ H c' = some (CodeO c' q) ∧ tl Ech H (fun _ H' => D.rt .non H'))
      rfl rfl rfl scHea.nd rfl rfl rfl rfl ⟨rfl, by decide, .inl T.mE⟩ (fun W pn xe tk _ => ?_))
    (pss_cons (ps_if (PW.pt (pw_and (pt_val (pe_callB call_isKe (by rfl) T.isi (by decide +kernel) (pa_cons (pv 1) (pa_cons (pe_glob rfl T.mJ (v := .ref CJ) rfl) pa_nil))))
        (pw_and1 (pt_not (pt_val (pe_callB call_isKe (by rfl) T.isi (by decide +kernel) (pa_cons (pv 1) (pa_cons (pe_glob rfl T.mI (v := .ref CI) rfl) pa_nil)))))))) (pss_one (ps_ret (pe_op op_add_str pe_str (pe_callTy (T := "str") SkE.call_str_str (by rfl) T.str (by decide +kernel) (pa_cons (pe_fldK (pv 1)) pa_nil))))) pss_nil)
    (pss_cons (ps_if (PW.pt (pw_and (pt_val (pe_callB call_isKe (by rfl) T.isi (by decide +kernel) (pa_cons (pv 1) (pa_cons (pe_glob rfl T.mI (v := .ref CI) rfl) pa_nil))))
        (pw_and1 (pt_val (pe_callB call_isKe (by rfl) T.isi (by decide +kernel) (pa_cons (pv 1) (pa_cons (pe_bltn (by rfl) T.mV (by decide +kernel) (v := .ty "ValueError") rfl) pa_nil))))))) (pss_one (ps_ret (pe_op op_add_str pe_str (pe_callTy (T := "str") SkE.call_str_str (by rfl) T.str (by decide +kernel) (pa_cons (pe_fldK (pv 1)) pa_nil))))) pss_nil)
    (pss_one (ps_ret pe_str))))), ?_⟩
  · refine ⟨fun pins s' σ H' D I h' => ?_⟩
    obtain ⟨Ech, hW, h1, h2, h3⟩ := h'
    exact (pss_cons (ps_expr (act (fun cls d σ H => σ.length = 3 → W cls d σ H) pn xe Ech _ _ (takesLen rfl tk) hW)) (pss_one (ps_ret pe_non))).run pins s' σ H' D I ⟨h1, h2, h3⟩
  · refine ⟨HeaX CI CJ Q, ?_, rfl, hc, h⟩
    rintro cls d σ' H1 hx hl
    have hs : ∀ a : Addr, (((σ'.set 2 (some (.ref a))).set 1 (some (.ref a))).set 2 none)[1]? = some (some (V.ref a)) := fun a => by simp [hl]
    cases hx with
    | board hd l k =>
      rename_i dd z
      refine ⟨T.exJ, fun a ha => ?_⟩
      have s1 := same_at (o := Kept a (.ref CJ) (some dd)) ha
      have hk : KeAt (upd H1 a (Kept a (.ref CJ) (some dd))) a CJ [("reason", .str z)] := ⟨dd, upd_same, s1 _ _ hd⟩
      refine ⟨_, hs a, a, CJ, _, _, _, true, rfl, .own _, hk, T.keJ, T.jj, _, rfl, iteT ?_⟩
      refine ⟨_, hs a, a, CJ, _, _, _, false, rfl, .own _, hk, T.keJ, T.ji, _, rfl, iteT ?_⟩
      refine ⟨_, hs a, a, CJ, _, _, rfl, hk, T.keJ, T.noJ, by rw [List.lookup_cons, beq_self_eq_true], _, rfl, _, _, rfl, rfl, ?_, k _ s1⟩
      have e6 : (("board " : Str)).length ≤ 6 := by decide +kernel
      exact Nat.le_trans (Nat.add_le_add e6 l) (by decide)
    | hurt hd l k =>
      rename_i dd z
      refine ⟨T.exI, fun a ha => ?_⟩
      have s1 := same_at (o := Kept a (.ref CI) (some dd)) ha
      have hk : KeAt (upd H1 a (Kept a (.ref CI) (some dd))) a CI [("reason", .str z)] := ⟨dd, upd_same, s1 _ _ hd⟩
      refine ⟨_, hs a, a, CI, _, _, _, false, rfl, .own _, hk, T.keI, T.ij, _, rfl, iteF ?_⟩
      refine iteF ?_
      refine ⟨_, hs a, a, CI, _, _, _, true, rfl, .own _, hk, T.keI, T.ii, _, rfl, iteT ?_⟩
      refine ⟨_, hs a, a, CI, _, _, _, true, rfl, .ty _, hk, T.keI, T.iv, _, rfl, iteT ?_⟩
      refine ⟨_, hs a, a, CI, _, _, rfl, hk, T.keI, T.noI, by rw [List.lookup_cons, beq_self_eq_true], _, rfl, _, _, rfl, rfl, ?_, k _ s1⟩
      have e6 : (("hurt " : Str)).length ≤ 5 := by decide +kernel
      exact Nat.le_trans (Nat.add_le_add e6 l) (by decide)
end
/-- what is told of what a lambda raises -/
def toldH : Option (Bool × Str) → V
  | none => .non
  | some (true, z) => .str (("board " : Str) ++ z)
  | some (false, z) => .str (("hurt " : Str) ++ z)
/-- reading _law_heard(lambda: ..): which error (board: true), with what reason -/
theorem hr_rd {T : List (Addr × Str)} {CI CJ : Addr} {t : XK → TE} {σ : L2.St} {H : Hp} {Q : VK} {r : Option (Bool × Str)} (hT : Tabs T H) (hl : ∀ b z, r = some (b, z) → z.length ≤ 100)
    (h : ∀ H1, ExtN H H1 → Tabs T H1 → ∀ (Qn : VK) (E : XK), (∀ z, r = some (true, z) → ∀ dd H', errH H1 H' dd "reason" (.str z) → E (.ref CJ) (some dd) H') → (∀ z, r = some (false, z) → ∀ dd H', errH H1 H' dd "reason" (.str z) → E (.ref CI) (some dd) H') → (r = none → ∀ u H', Same H1 H' → Qn u H') → t E σ H1 Qn)
    (k : ∀ H2, ExtN H H2 → Tabs T H2 → Q (toldH r) H2) : tLam T (TThea CI CJ) t σ H Q :=
  ⟨hT, fun H1 x1 T1 => h H1 x1 T1 _ _
    (fun z e dd H' er => .board er.2.1 (hl _ _ e) fun H2 s2 => by
      have := k H2 (x1.trans (.of (er.2.2.trans s2))) (T1.ext (er.2.2.trans s2))
      rw [e] at this
      exact this)
    (fun z e dd H' er => .hurt er.2.1 (hl _ _ e) fun H2 s2 => by
      have := k H2 (x1.trans (.of (er.2.2.trans s2))) (T1.ext (er.2.2.trans s2))
      rw [e] at this
      exact this)
    (fun e u H' s => by
      have := k H' (x1.trans (.of s)) (T1.ext s)
      rw [e] at this
      exact this)⟩
end Sj
namespace Sj
open PySem L2 Sup StK Own Shw Exg Grd KepE LamX
open NdefX (NF NScope ncx envF startF nscope_by)
open C8 (pss_cut tCut)
/-! words alike; dicts of pairs; digits -/
theorem eqLegs_refl (ys : List LegR) : eqLegs ys ys = true := by
  unfold eqLegs
  rw [beq_self_eq_true, Bool.true_and]
  refine List.all_eq_true.mpr fun p hp => List.any_eq_true.mpr ⟨p, hp, ?_⟩
  rw [decide_eq_true rfl, decide_eq_true rfl]
  rfl
abbrev rWw (K : PySem.W.Frag) (ks : Kinds) (CF CW : Addr) (op : CmpOp) : R2 := rOwnE K op (fun C => C = CW) (fun _ => spWEq K ks CF CW)
theorem wd_eq {op : CmpOp} {K : PySem.W.Frag} {ks : Kinds} {CF CW : Addr} {H : Hp} {Q : VK} {a b : Addr} {d e : FrD} {gv hv : List (Str × Int)} {v : Bool} (ic : IsiC K CW) (nf : PySem.W.notFirst K CW (.ref CW) = true) (ha : WdIs ks CF CW H a d gv) (hb : WdIs ks CF CW H b e hv) (he : eqWd ks d e gv hv = v) (k : ∀ H', Same H H' → Q (.bl (ansOf op v)) H') :
    rWw K ks CF CW op (.ref a) (.ref b) H Q := by
  obtain ⟨dx, fs, ea⟩ := ha.ins
  obtain ⟨dy, gs, eb⟩ := hb.ins
  subst he
  exact ⟨a, CW, dx, fs, rfl, ea, rfl, .inl ⟨.ref CW, .base (.ins eb ic.cl ic.ca ic.cn ic.ct ic.cm), nf, a, d, gv, .ref b, rfl, ha, .inl ⟨b, e, hv, rfl, hb, fun H' s => ⟨_, rfl, k H' s⟩⟩⟩⟩
theorem eqWd_same {ks : Kinds} {d : FrD} {gv hv : List (Str × Int)} (h : ∀ z ∈ kindZ ks true d.ys, lvl gv d.t z = lvl hv d.t z) : eqWd ks d d gv hv = true := by
  unfold eqWd
  rw [eqFr_self rfl rfl rfl (eqLegs_refl _), Bool.true_and]
  exact List.all_eq_true.mpr fun z hz => decide_eq_true (h z hz)
theorem valV_no : ∀ {kvs : List (Key × V)} {k : Key}, (∀ p ∈ kvs, p.1 ≠ k) → valV kvs k = none
  | [], _, _ => rfl
  | p :: kvs, k, h => by
    rw [valV_neg (h p List.mem_cons_self)]
    exact valV_no fun q hq => h q (List.mem_cons_of_mem _ hq)
theorem merge_app : ∀ {more acc : List (Key × V)}, ((acc ++ more).map (·.1)).Nodup → mergeK acc more = acc ++ more
  | [], acc, _ => by rw [List.append_nil]; rfl
  | p :: more, acc, h => by
    have h1 : valV acc p.1 = none := valV_no fun q hq e => by
      rw [List.map_append, List.nodup_append] at h
      exact h.2.2 q.1 (List.mem_map.mpr ⟨q, hq, rfl⟩) p.1 (List.mem_map.mpr ⟨p, List.mem_cons_self, rfl⟩) e
    show mergeK (putK acc p.1 p.2) more = _
    rw [putK_new _ h1, merge_app (by rw [List.append_assoc]; exact h), List.append_assoc]
    rfl
theorem paired_imp {α β : Type} {F G : α → β → Prop} : ∀ {xs : List α} {ys : List β}, Paired F xs ys → (∀ x y, F x y → G x y) → Paired G xs ys
  | _, _, .nil, _ => .nil
  | _, _, .cons r t, h => .cons (h _ _ r) (paired_imp t h)
def digI (f : Str → Int) (t : Int) (R : List (List Str)) : List Int := R.flatMap fun r => r.map f ++ [t, t]
theorem digV_eq (ks : Kinds) (e : FrD) (gv : List (Str × Int)) (t : Int) : ∀ L : List (Addr × List Str), digV ks e gv t L = (digI (wlv ks e gv) t (L.map (·.2))).map V.int
  | [] => rfl
  | x :: L => by
    have ih := digV_eq ks e gv t L
    have e1 : digV ks e gv t (x :: L) = ((x.2.map fun z => V.int (wlv ks e gv z)) ++ [V.int t, .int t]) ++ digV ks e gv t L := rfl
    have e2 : digI (wlv ks e gv) t ((x :: L).map (·.2)) = (x.2.map (wlv ks e gv) ++ [t, t]) ++ digI (wlv ks e gv) t (L.map (·.2)) := rfl
    rw [e1, e2, ih, List.map_append, List.map_append, List.map_map]
    rfl
theorem dp_ints2 {K : PySem.W.Frag} {H : Hp} : ∀ l : List Int, DpAll K H (l.map V.int) (l.map PyData.int)
  | [] => .nil
  | i :: l => .cons (.int i) (dp_ints2 l)
theorem ChIs.butq {ks : Kinds} {CF CC q : Addr} {H H' : Hp} {o f : Addr} {d : FrD} {L : List (Addr × List Str)} {xs : List V} (h : ChIs ks CF CC H o f d L) (hq : H q = some (.lst xs)) (b : But H H' q) : ChIs ks CF CC H' o f d L := by
  obtain ⟨dx, B, h1, h2, h3⟩ := h.at_
  refine ⟨⟨dx, B, b _ _ (ne_of h1 hq (by intro z; cases z)) h1, b _ _ (ne_of h2 hq (by intro z; cases z)) h2, fun x hx => b _ _ (ne_of (h3 x hx) hq (by intro z; cases z)) (h3 x hx)⟩, h.fr.butq hq b, h.p⟩
/-- rows of the law, apart from the pen -/
structure RowP (H : Hp) (p q : Addr) (G : List (Addr × List Str)) : Prop where
  at_ : H q = some (.lst (refsB G))
  np : q ≠ p
  row : ∀ x ∈ G, H x.1 = some (.lst (strv x.2)) ∧ x.1 ≠ p
theorem RowP.l {H : Hp} {p q : Addr} {G : List (Addr × List Str)} (h : RowP H p q G) : RowL H q G := ⟨h.at_, fun x hx => (h.row x hx).1⟩
theorem RowP.same {H H' : Hp} {p q : Addr} {G : List (Addr × List Str)} (h : RowP H p q G) (s : Same H H') : RowP H' p q G := ⟨s _ _ h.at_, h.np, fun x hx => ⟨s _ _ (h.row x hx).1, (h.row x hx).2⟩⟩
theorem RowP.but {H H' : Hp} {p q : Addr} {G : List (Addr × List Str)} (h : RowP H p q G) (s : But H H' p) : RowP H' p q G := ⟨s _ _ h.np h.at_, h.np, fun x hx => ⟨s _ _ (h.row x hx).2 (h.row x hx).1, (h.row x hx).2⟩⟩
theorem RowP.ext {H H' : Hp} {p q : Addr} {G : List (Addr × List Str)} (h : RowP H p q G) (s : ExtN H H') : RowP H' p q G := ⟨s _ _ h.at_ (fun ps z => by cases z), h.np, fun x hx => ⟨s _ _ (h.row x hx).1 (fun ps z => by cases z), (h.row x hx).2⟩⟩
/-- cells and digits side by side -/
theorem zip_cells (f : Str → Int) (t : Int) : ∀ L : List (Addr × List Str), (cellsV t L).zip (digI f t (L.map (·.2))) = L.flatMap fun x => (x.2.map fun z => ((V.str z, f z) : V × Int)) ++ [(V.int 0, t), (V.int t, t)]
  | [] => rfl
  | x :: L => by
    have ih := zip_cells f t L
    have e1 : cellsV t (x :: L) = (strv x.2 ++ [V.int 0, .int t]) ++ cellsV t L := rfl
    have e2 : digI f t ((x :: L).map (·.2)) = (x.2.map f ++ [t, t]) ++ digI f t (L.map (·.2)) := rfl
    have l1 : (strv x.2).length = x.2.length := List.length_map _
    have z1 : ∀ zs : List Str, (strv zs).zip (zs.map f) = zs.map fun z => ((V.str z, f z) : V × Int) := fun zs => by
      induction zs with
      | nil => rfl
      | cons z zs ih => show (V.str z, f z) :: (strv zs).zip (zs.map f) = _; rw [ih]; rfl
    rw [e1, e2, List.zip_append (by rw [List.length_append, List.length_append, l1, List.length_map]; rfl), List.zip_append (by rw [l1, List.length_map]), z1, ih, List.flatMap_cons]
    rfl
/-- what arrives of what entered -/
theorem lvl_arr {ks : Kinds} {d : FrD} {f : Str → Int} {L : List (Addr × List Str)} {z : Str} {t u : Int} (nd : (allN L).Nodup) (hz : z ∈ kindZ ks true d.ys) (hl : z ∈ allN L) : lvl (arrG ks d (cellsV t L) (digI f t (L.map (·.2)))) u z = f z := by
  have nd2 : ((arrG ks d (cellsV t L) (digI f t (L.map (·.2)))).map (·.1)).Nodup := by
    have := arr_names ks d (cellsV t L) (digI f t (L.map (·.2)))
    rw [nm_cells] at this
    exact List.Nodup.sublist this nd
  have m : (z, f z) ∈ arrG ks d (cellsV t L) (digI f t (L.map (·.2))) := by
    unfold arrG
    rw [zip_cells]
    obtain ⟨x, hx, hzx⟩ := List.mem_flatMap.mp hl
    refine List.mem_flatMap.mpr ⟨(V.str z, f z), List.mem_flatMap.mpr ⟨x, hx, List.mem_append_left _ (List.mem_map.mpr ⟨z, hzx, rfl⟩)⟩, ?_⟩
    show (z, f z) ∈ (if z ∈ kindZ ks true d.ys then [(z, f z)] else [])
    rw [if_pos hz]
    exact List.mem_singleton.mpr rfl
  unfold lvl
  rw [lvG_nd nd2 m]
  rfl
theorem cut_dropV (l : List V) {k : Nat} (h : k ≤ l.length) : cutV l (some (k : Int)) none = l.drop k := by
  unfold cutV
  rw [HT.sIx_none, HT.sIx_nat, Nat.min_eq_left h, List.take_of_length_le (by rw [List.length_drop]; omega)]
end Sj
/-! tuples of two texts under != -/
namespace StK
open PySem PySem.Spec PyProof PyProof.Rows L2
end StK
namespace Sj
open PySem L2 Sup StK Own Shw Exg Grd KepE LamX
open NdefX (NF NScope ncx envF startF nscope_by)
open C8 (pss_cut tCut)
/-! k67: _law_is_name; Hurt(name = .., link = ..) -/
/-- [x for x in .. if test]: is it empty -/
theorem lc_sel {J : It} {n : Nat} {G : Hp → Prop} {Y : Nat → Hp → V → Hp → Prop} (wk : Walk J n G Y) {tt : TT} {v : Nat} {vs : List Nat} {σ : L2.St} {H1 : Hp} {D : Addr} {Qd : Hp → Prop} (bs : List Bool) (hbs : bs.length = n) (hD : H1 D = none) (hn : n ≤ 2000) (hG : ∀ H', Same H1 H' → G H')
    (hw : ∀ x, wipe ((wipe σ vs).set v (some x)) vs = wipe σ vs) (hv : ∀ x, ((wipe σ vs).set v (some x))[v]? = some (some x))
    (hs : ∀ i x H H' b, bs[i]? = some b → Same H1 H → Y i H x H' → Same H H' ∧ ∀ R : Bool → Hp → Prop, (∀ H'', Same H' H'' → R b H'') → tt ((wipe σ vs).set v (some x)) H' R) (hd : ∀ H ys, Same H1 H → H D = some (.lst ys) → ys.isEmpty = (!bs.any id) → Qd H) :
    ∃ W : Nat → Nat → Hp → Prop, (∃ m, W 0 m (upd H1 D (.lst []))) ∧ ∀ i m H, W i m H →
      (J.stop i H ∧ Qd H) ∨ (J.go i H ∧ ∃ Nx : Hp → Prop, (∀ H', Nx H' → ∃ m', m' < m ∧ W (i + 1) m' H') ∧ ∀ x H', J.yld i H x H' → gName v x (wipe σ vs) H' fun σ2 H2 => wipe σ2 vs = wipe σ vs ∧ tt σ2 H2 fun b H3 =>
        if b = true then tVar v σ2 H3 fun y H4 => ∃ acc, H4 D = some (.lst acc) ∧ acc.length < sizeLine ∧ Nx (upd H4 D (.lst (acc ++ [y]))) else Nx H3) := by
  subst hbs
  refine lc_it wk (fun i H' => Same H1 H' ∧ ∃ ys, H' D = some (.lst ys) ∧ ys.length ≤ i ∧ ys.isEmpty = !((bs.take i).any id)) ⟨same_at hD, [], upd_same, Nat.le_refl _, rfl⟩ (fun i H' _ p => hG H' p.1) ?_ fun H p => ?_
  · rintro i x Ho Ha hi ⟨sa, ys, da, hl, he⟩ y
    have eb : bs[i]? = some bs[i] := List.getElem?_eq_getElem hi
    obtain ⟨sy, rt⟩ := hs i x Ho Ha bs[i] eb sa y
    refine ⟨hw _, rt _ fun H3 s3 => ?_⟩
    have da3 := s3 _ _ (sy _ _ da)
    have s13 := (sa.trans sy).trans s3
    have et : (bs.take (i + 1)).any id = ((bs.take i).any id || bs[i]) := by rw [List.take_add_one, eb, Option.toList_some, List.any_append, List.any_cons, List.any_nil, Bool.or_false]; rfl
    cases e : bs[i] with
    | true =>
      rw [if_pos rfl]
      refine ⟨_, hv _, _, da3, Nat.lt_of_lt_of_le (show _ < 2001 by omega) (by decide), fun c o ec => ?_, _, upd_same, by rw [List.length_append, List.length_singleton]; omega, ?_⟩
      · rw [upd_ne (ne_of_none ec hD)]
        exact s13 _ _ ec
      · rw [et, e, Bool.or_true]
        cases ys <;> rfl
    | false =>
      rw [if_neg (by decide)]
      exact ⟨s13, ys, da3, by omega, by rw [et, e, Bool.or_false]; exact he⟩
  · obtain ⟨s, ys, h1, _, h3⟩ := p
    rw [List.take_length] at h3
    exact hd H ys s h1 h3
def rEqNil : R2 := fun x y H Q => ∃ a b xs, x = .ref a ∧ y = .ref b ∧ H a = some (.lst xs) ∧ H b = some (.lst []) ∧ Q (.bl xs.isEmpty) H
theorem op_eqNil {X : Cx} (hu : X.A.units + 64 < cLine) : OpR X (compareOp .Eq) rEqNil := by
  intro pins s σ H x y v u Q I rx ry h
  obtain ⟨a, b, xs, rfl, rfl, ha, hb, q⟩ := h
  cases xs with
  | nil => exact op_eqD hu pins s σ H _ _ v u Q I rx ry ⟨.list [], .list [], .lst (SqL.of ha) .nil, .lst (SqL.of hb) .nil, rfl, rfl, q⟩
  | cons y ys =>
    obtain rfl : v = Value.ref a := rx
    obtain rfl : u = Value.ref b := ry
    obtain ⟨its, r1, p1, _⟩ := I.list (SqL.of ha)
    obtain ⟨it2, r2, p2, _⟩ := I.list (SqL.of hb)
    have e1 : its.toArray.size ≠ it2.toArray.size := by
      rw [List.size_toArray, List.size_toArray, ← r1.length, ← r2.length]
      exact Nat.succ_ne_zero _
    exact SeqAt.RcAt.lists_lengths p1.isList p2.isList (by simpa using e1) (Nat.lt_of_le_of_lt (Nat.le_add_right _ _) hu) _ _ _ _ ⟨.bl false, H, I, rfl, q⟩
abbrev sLin : Stmt := top 65
theorem scLin : FnScope ["_law_thing", "_law_letter"] ["_law_thing"] (defScope sLin) := ⟨rfl, rfl, rfl, by decide +kernel, rfl, by decide +kernel, by decide +kernel⟩
/-- a name by the law -/
def lName (z : Str) : Bool := decide ((1 : Int) ≤ z.length) && decide ((z.length : Int) ≤ 8) && z.cps.toList.all fun c => decide (c ∈ lettersS.cps.toList)
def spLin (K : PySem.W.Frag) : Sp := fun vs H Q _ => ∃ x : V, vs = [x] ∧ ((∃ z : Str, x = .str z ∧ z.length ≤ 1000 ∧ ∀ H', Same H H' → Q (.bl (lName z)) H') ∨ ∃ t : String, TyX K H x (.type t) ∧ kitB t "str" = some false ∧ Q (.bl false) H)
def ttLin : TT := tTest (tOp (fun x y H Q => ∃ (c : Nat) (z : Str), x = .str ⟨#[c]⟩ ∧ y = .str z ∧ Q (.bl (!decide (c ∈ z.cps.toList))) H) (tVar 1) (tC (.str lettersS)))
theorem not_any_not {α : Type} (p : α → Bool) : ∀ cs : List α, (!(cs.map fun c => !p c).any id) = cs.all p
  | [] => rfl
  | c :: cs => by
    have ih := not_any_not p cs
    show (!((!p c) || (cs.map fun c => !p c).any id)) = (p c && cs.all p)
    rw [← ih, Bool.not_or, Bool.not_not]
section
variable {P : Program} {w : World} {K : PySem.W.Frag} {mg : Str → Option Value} {base : Heap}
theorem ok_lin {f : Addr} {fd : FuncData} (F : Fun K "_law_is_name" "_law_is_name" sLin f fd) (isi : mg "isinstance" = none) (str : mg "str" = none) (len : mg "len" = none) : FnOk P w K mg base CX0 1 f fd ["_law_thing"] (spLin K) := by
  refine F.ok scLin (fun vs H Q E h => ?_) (fun cdv A outer s H vs Q E hr h => ?_)
  · obtain ⟨x, rfl, _⟩ := h
    rfl
  · obtain ⟨x, rfl, h⟩ := h
    refine ⟨_, pss_cons (ps_if (PW.pt (pw_or (pt_not (pt_val (pe_callB call_isi (by rfl) isi (by decide +kernel) (pa_cons (pv 0) (pa_cons (pe_bltn (by rfl) str (by decide +kernel) (v := .ty "str") rfl) pa_nil)))))
          (pw_or1 (pt_not (pt_chain op_le op_le pe_int (pe_callB call_len_str (by rfl) len PySem.boot_len (pa_cons (pv 0) pa_nil)) pe_int))))) (pss_one (ps_ret pe_bl)) pss_nil)
      (pss_one (ps_ret (pe_cmpR (op_eqNil hr.units) (pe_lc (te := tVar 1) (tt := ttLin) (own := [("_law_letter", 1)]) (g := gName 1) rfl scLin.nd (pi_str (pv 0)) (blkOk_by (N := ["_law_thing", "_law_letter"]) (sc := defScope sLin) (by decide +kernel))
          (fun _ _ _ _ _ => pg_name (i := 1) scLin.nd rfl (Or.inl rfl)) (fun _ _ _ _ _ => pts_one (pt_cmpR op_notIn_sign (pv 1) pe_str (by rfl))) (fun _ _ _ _ _ => pv 1)) (pe_lst pa_nil) (nomark _)))), ?_⟩
    rcases h with ⟨z, rfl, hz, k⟩ | ⟨t, ht, hk, k⟩
    · have hzl : z.length ≤ sizeLine := small1000 hz |> Nat.le_of_lt
      refine ⟨_, rfl, _, _, .type "str", .type "str", true, rfl, .ty _, .base (.str _), kit_ty (by decide +kernel), _, rfl, iteF ?_⟩
      refine ⟨_, rfl, _, rfl, hzl, _, _, rfl, rfl, _, rfl, ?_⟩
      have e0 : lName z = (decide ((1 : Int) ≤ z.length) && decide ((z.length : Int) ≤ 8) && z.cps.toList.all fun c => decide (c ∈ lettersS.cps.toList)) := rfl
      by_cases h1 : (1 : Int) ≤ z.length
      · rw [decide_eq_true h1] at e0 ⊢
        refine iteT ⟨_, _, rfl, rfl, _, rfl, ?_⟩
        by_cases h2 : (z.length : Int) ≤ 8
        · rw [decide_eq_true h2] at e0 ⊢
          refine iteF ?_
          refine ⟨_, rfl, z, rfl, fun D hD => lc_sel walk_str (z.cps.toList.map fun c => !decide (c ∈ lettersS.cps.toList)) (by rw [List.length_map]; rfl) hD (Nat.le_trans hz (by decide)) (fun _ _ => True.intro) (fun x => rfl) (fun x => rfl) ?_ fun H4 ys s4 d4 e4 => ?_⟩
          · rintro i x Ho Ha b' eb sa ⟨rfl, c, hc, rfl⟩
            refine ⟨Same.refl _, fun R kR => ⟨_, rfl, c, lettersS, rfl, rfl, _, rfl, ?_⟩⟩
            have ec : z.cps.toList[i]? = some c := by rw [Array.getElem?_toList]; exact hc
            rw [List.getElem?_map, ec] at eb
            rw [show (!decide (c ∈ lettersS.cps.toList)) = b' from Option.some.inj eb]
            exact kR _ (Same.refl _)
          · refine ⟨by show 0 ≤ sizeLine; decide, fun e he => ?_⟩
            have s5 := same_at (o := .lst []) he
            refine ⟨D, e, ys, rfl, rfl, s5 _ _ d4, upd_same, ?_⟩
            rw [e4]
            have e6 : (!(z.cps.toList.map fun c => !decide (c ∈ lettersS.cps.toList)).any id) = lName z := by
              rw [e0, Bool.true_and, Bool.true_and]
              exact not_any_not _ _
            rw [e6]
            exact k _ (s4.trans s5)
        · rw [decide_eq_false h2] at e0 ⊢
          refine iteT ?_
          rw [show lName z = false from e0] at k
          exact k _ (Same.refl _)
      · rw [decide_eq_false h1] at e0 ⊢
        refine iteF ⟨_, rfl, iteT ?_⟩
        rw [show lName z = false from e0] at k
        exact k _ (Same.refl _)
    · exact ⟨_, rfl, _, _, .type t, .type "str", false, rfl, .ty _, ht, kit_ty hk, _, rfl, iteT k⟩
end
end Sj
/-! o.m(k = e): an own method called by words alone, nothing being shown -/
namespace StK
open PySem PySem.Spec PyProof PyProof.Rows L2 Sup Grd Own StX
/-- a def called by these words behind its self, nothing being shown -/
def FnKG (P : Program) (w : World) (K : PySem.W.Frag) (mg : Str → Option Value) (base : Heap) (CX : CXT) (k : Nat) (f : Addr) (ks : List Str) (sp : Sp) : Prop :=
  ∀ (A : Around) (outer : List Env) (s : Shared) (H : Hp) (u : Value) (ws : List Value) (v : V) (zs : List V) (Q : VK) (E : XK), A.guards = some [] → Room k A → Env0 P w K mg base A outer s H → RelV v u → Vals zs ws → zs.length = ks.length → sp (v :: zs) H Q E →
    codeAny (model P w) A (.call (.ref f) ⟨[u], ks.zip ws⟩) (CR CX outer P w H s Q E) s
theorem fnKG_of {P : Program} {w : World} {K : PySem.W.Frag} {mg : Str → Option Value} {base : Heap} {CX : CXT} {k : Nat} {f : Addr} {fd : FuncData} {ps ks : List Str} {sp : Sp} (F : FnG P w K mg base CX k f fd ps sp)
    (hb : ∀ (s : Shared) (u : Value) (ws : List Value), ws.length = ks.length → BindsTo s fd ⟨[u], ks.zip ws⟩ (ps.zip (u :: ws))) : FnKG P w K mg base CX k f ks sp := fun A outer s H u ws v zs Q E hg hr e0 r rz hl h =>
  F.run A outer s H ⟨[u], ks.zip ws⟩ (u :: ws) (v :: zs) Q E hg hr e0 (hb s u ws (by rw [← rz.length]; exact hl)) (.cons r rz) h
section
variable {X : Cx} {CX : CXT} {k : Nat} {f C : Addr} {m : Str} {ks : List Str} {sp : Sp} {E : XK} {o : Expr} {kws : List Keyword} {ta : TE} {tk : TA} {apos pos : Pos}
def tMethK (C : Addr) (m : Str) (n : Nat) (sp : Sp) (E : XK) (ta : TE) (tk : TA) : TE := fun σ H Q => ta σ H fun x H1 => ∃ a dx fs, x = .ref a ∧ H1 a = some (.ins C dx fs) ∧ fs.lookup m = none ∧ tk σ H1 fun zs H2 => zs.length = n ∧ sp (x :: zs) H2 Q E
theorem pe_methK {pl : Sem Bool} (he : PE X o ta) (c : Cls X.K C) (hm : Meth X.K C m f) (F : FnKG X.prog X.w X.K X.mg X.base CX k f ks sp) (hG : X.A.guards = some []) (hr : Room k X.A) (hx : Passes CX X E) (hkw : PK X kws tk)
    (hall : (backToKw pos (keywordEach kws X.env)).all (·.1.isSome) = true := by rfl) (hks : (backToKw pos (keywordEach kws X.env)).filterMap (·.1) = ks := by rfl)
    (hpl : ((backTo pos (starEach [] X.env)).any (·.1) || (backToKw pos (keywordEach kws X.env)).any (·.1.isNone)) = false := by rfl)
    (ht : eval (.Call (.Attribute o m apos) [] kws pos) X.env = (do let ov ← eval o X.env; standAt apos.atName; let (f, first) ← holding [ov] (getMethod ov m pl); callWith pos f first (backTo pos (starEach [] X.env)) (backToKw pos (keywordEach kws X.env))) := by rfl) :
    PE X (.Call (.Attribute o m apos) [] kws pos) (tMethK C m ks.length sp E ta tk) := by
  refine ⟨fun pins s σ H Q I h => ?_⟩
  refine PySem.W.methodCall_KW (pl := pl) (thn (he.run pins s σ H _ I h) fun u s1 ⟨x, H1, I1, rx, a, dx, fs, ex, ea, l, q⟩ => ?_) ht
  subst ex
  obtain rfl : u = Value.ref a := rx
  refine getmeth_ok I1 ea c hm l ?_
  refine PySem.W.callWith_KW0 (first := [.ref a]) (h₀ := X.base) I.ok.mod.kin hm.kp hall ?_ hpl
  refine thn (hkw.run pos pins s1 σ H1 _ I1 q) fun ws s2 ⟨zs, H2, I2, rz, l2, q2⟩ => ⟨I2.kIn, ?_⟩
  rw [hks]
  refine wpAny_call (codeAny_mono (F X.A X.stack s2 H2 (.ref a) ws (.ref a) zs Q E hG hr I2.env0 rfl rz l2 q2) fun res s' hq => ?_)
  match res, hq with
  | .error e, hq => exact hx pins σ H2 s2 e s' I2 hq
  | .ok (.ret u), hq => exact I2.after hq
end
end StK
namespace Sj
open PySem L2 Sup StK Own Shw Exg Grd KepE LamX
open NdefX (NF NScope ncx envF startF nscope_by)
open C8 (pss_cut tCut)
/-! k67: _law_arrived_right -/
theorem chF_no {f B : Addr} {x : Str} (h1 : x ≠ "parts") (h2 : x ≠ "frame") : (chF f B).lookup x = none := by
  unfold chF
  rw [lookup_putF, if_neg h1, lookup_putF, if_neg h2]
  rfl
theorem ch_of0 {P : Program} {w : World} {K : PySem.W.Frag} {mg : Str → Option Value} {base : Heap} {f CF CC : Addr} {fd : FuncData} {ks : Kinds} (F : FunD K "of" "Chain.of" (defArgs sChO) (defBody sChO) (defScope sChO) [] [] f fd) (G : FnOk P w K mg base (L2.CX P w) 6 f fd ["cls", "frame", "parts"] (spChO K ks CF CC)) :
    FnK P w K mg base (L2.CX P w) 6 f [] (fun vs zs H Q E => vs.length = 3 ∧ spChO K ks CF CC vs H Q E) := by
  have hb : KBn K fd ["cls", "frame", "parts"] 3 [] (fun us _ => us) (fun vs _ => vs) := by
    obtain ⟨oc, od, dV, kV, doc, pm, an, cdv, ct, osl, rfl, lk, hcd, hD, hK⟩ := F.ex
    rcases hD with ⟨_, rfl⟩ | ⟨e, _⟩
    case inr => exact absurd rfl e
    exact ⟨fun s us ws X h1 h2 => match us, ws, h1, h2 with
      | [a, b, c], [], _, _ => .of_eq rfl, fun r _ => r⟩
  exact fnK_of G hb
theorem allN_map (L : List (Addr × List Str)) : allN L = (L.map (·.2)).flatten := by
  unfold allN
  rw [List.flatMap_def]
theorem Parts.rows {d : FrD} {L M : List (Addr × List Str)} (h : Parts d L) (e : M.map (·.2) = L.map (·.2)) : Parts d M := by
  have hl : M.length = L.length := by
    have := congrArg List.length e
    rwa [List.length_map, List.length_map] at this
  exact ⟨by rw [hl]; exact h.l1, by rw [hl]; exact h.l8, by rw [allN_map, e, ← allN_map]; exact h.pm⟩
theorem cells_congr {t : Int} : ∀ {L M : List (Addr × List Str)}, L.map (·.2) = M.map (·.2) → cellsV t L = cellsV t M := fun {L M} h => by
  have e : ∀ L : List (Addr × List Str), cellsV t L = (L.map (·.2)).flatMap fun r => strv r ++ [V.int 0, .int t] := fun L => by
    unfold cellsV
    rw [List.flatMap_map]
  rw [e, e, h]
theorem inV_int (i : Int) (zs : List Str) : inV (.int i) (strv zs) = false := by
  induction zs with
  | nil => rfl
  | cons z zs ih =>
    show (eqV (V.str z) (V.int i) || inV (.int i) (strv zs)) = false
    rw [ih]
    rfl
/-- a list or a tuple of these ints -/
def GivI (H : Hp) (g : Addr) (is : List Int) : Prop := H g = some (.lst (is.map V.int)) ∨ H g = some (.tup (is.map V.int))
theorem GivI.same {H H' : Hp} {g : Addr} {is : List Int} (h : GivI H g is) (s : Same H H') : GivI H' g is := h.imp (s _ _) (s _ _)
theorem GivI.sq {K : PySem.W.Frag} {H : Hp} {g : Addr} {is : List Int} (h : GivI H g is) : ∃ k, ∀ H', Same H H' → Zm.SqX k K H' g (is.map V.int) := by
  rcases h with h | h
  · exact ⟨true, fun H' s => SqL.of (s _ _ h)⟩
  · exact ⟨false, fun H' s => SqT.of (s _ _ h)⟩
abbrev sArr : Stmt := top 64
abbrev nArr : List Str := ["_law_pen_here", "_law_bare_here", "_law_rows", "_law_field", "_law_cells_so", "_law_made", "_law_turn", "_law_digits_so", "_law_due", "_law_given", "_law_word_so", "_law_cell", "_law_digit"]
theorem scArr : FnScope nArr ["_law_pen_here", "_law_bare_here", "_law_rows"] (defScope sArr) := ⟨rfl, rfl, rfl, by decide +kernel, rfl, by decide +kernel, by decide +kernel⟩
structure ArrT (P : Program) (w : World) (K : PySem.W.Frag) (mg : Str → Option Value) (base : Heap) (ks : Kinds) (CF CC CW gO fA fE : Addr) : Prop where
  dw : DwT P w K mg base
  frm : Fi P w K mg base "_law_frame" 7 ["_law_bare_here"] (spFrm ks CF)
  cel : Fi P w K mg base "_law_cells" 1 ["_law_bare_here", "_law_rows"] spCel
  lvs : Fi P w K mg base "_law_levels" 3 ["_law_pen_here", "_law_bare_here"] spLvs
  ne : ks.drv ≠ ks.lis
  mC : mg "Chain" = some (.ref CC)
  cls : ∃ mc pO, ClX.CRead K CC mc ∧ ClX.CMet K CC mc "of" pO gO
  of0 : FnK P w K mg base (L2.CX P w) 6 gO [] (fun vs zs H Q E => vs.length = 3 ∧ spChO K ks CF CC vs H Q E)
  clC : Cls K CC
  arM : Meth K CC "arrived" fA
  arO : ∃ fd, Binds K fd ["self", "digits"] [] ∧ FnOk P w K mg base CX0 9 fA fd ["self", "digits"] (spChA K ks CF CC CW)
  arK : FnKG P w K mg base CX0 9 fA ["digits"] (spChA K ks CF CC CW)
  enM : Meth K CC "entering" fE
  enO : ∃ fd, Binds K fd ["self", "word"] [] ∧ FnOk P w K mg base CX0 4 fE fd ["self", "word"] (spChN ks CF CC CW)
  mW : mg "Word" = some (.ref CW)
  cW : ∃ mc p g, ClX.CRead K CW mc ∧ ClX.CMet K CW mc "of" p g ∧ FnK P w K mg base CX0 8 g [] (fun vs zs H Q E => vs.length = 3 ∧ spWOf ks CF CW vs H Q E)
  eqW : EqN P w K mg base 7 CW (spWEq K ks CF CW)
  icW : IsiC K CW
  nfW : PySem.W.notFirst K CW (.ref CW) = true
  range : mg "range" = none
  dict : mg "dict" = none
  zip : mg "zip" = none
  tuple : mg "tuple" = none
  list : mg "list" = none
def teDg : TE := tCall spDraw [] E0 (tCons (tVar 0) (tCons (tOp (rI0 fun i j => .int (i + j)) (tDGet (tVar 1) (tC (.str "top"))) (tC (.int 1))) tNil))
def ttPr (K : PySem.W.Frag) : TT := tTest (tOp (rIn K false) (tVar 11) (tDGet (tVar 1) (tC (.str "drivers"))))
def spArr : Sp := fun vs H Q _ => ∃ (p l : Addr) (cs : List Int) (n : Nat) (b q : Addr) (d : BareD) (G : List (Addr × List Str)), vs = [.ref p, .ref b, .ref q] ∧ Pen H p l cs n ∧ BareAt H b d p ∧ d.ok ∧ RowP H p q G ∧ 1 ≤ G.length ∧ G.length ≤ 8 ∧ (allN G).Perm (d.ds ++ d.ls) ∧ n < 70000 ∧
  ∀ H', Pen H' p l cs (n + 500) → But H H' p → Q (.bl true) H'
abbrev stA (p b q f c m : Addr) (o6 o7 o8 o9 o10 : Option V) : L2.St := [some (.ref p), some (.ref b), some (.ref q), some (.ref f), some (.ref c), some (.ref m), o6, o7, o8, o9, o10, none, none]
section
variable {P : Program} {w : World} {K : PySem.W.Frag} {mg : Str → Option Value} {base : Heap}
theorem ok_arr {f CF CC CW gO fA fE : Addr} {fd : FuncData} {ks : Kinds} (F : Fun K "_law_arrived_right" "_law_arrived_right" sArr f fd) (T : ArrT P w K mg base ks CF CC CW gO fA fE) : FnG P w K mg base CX0 10 f fd ["_law_pen_here", "_law_bare_here", "_law_rows"] spArr := by
  obtain ⟨fD, fdD, mD, kD, bD, GD⟩ := T.dw.draw
  obtain ⟨fF, fdF, mF, kF, bF, GF⟩ := T.frm
  obtain ⟨fC, fdC, mCe, kC, bC, GC⟩ := T.cel
  obtain ⟨fL, fdL, mL, kL, bL, GL⟩ := T.lvs
  obtain ⟨mc, pO, cr, cO⟩ := T.cls
  obtain ⟨mcW, pW, gW, crW, cmW, GW⟩ := T.cW
  obtain ⟨fdA, bA, GA⟩ := T.arO
  obtain ⟨fdE, bE, GE⟩ := T.enO
  refine fun_g F scArr (fun vs H Q E h => ?_) (fun cdv A outer s H vs Q E hg hr h => ?_)
  · obtain ⟨p, l, cs, n, b, q, d, G, rfl, _⟩ := h
    rfl
  obtain ⟨p, l, cs, n, b, q, d, G, rfl, hP, hB, ok, hR, h1, h8, hpm, hn, k⟩ := h
  have hu := hu_of hr
  have hr1 := hr.mono (show 1 ≤ 9 by decide)
  have hr3 := hr.mono (show 3 ≤ 9 by decide)
  have hr4 := hr.mono (show 4 ≤ 9 by decide)
  have hr6 := hr.mono (show 6 ≤ 9 by decide)
  have hr7 := hr.mono (show 7 ≤ 9 by decide)
  have hr8 := hr.mono (show 8 ≤ 9 by decide)
  have mW := T.mW
  have mC := T.mC
  have EW : ∀ X : Cx, X.prog = P → X.w = w → X.K = K → X.mg = mg → X.base = base → Room 8 X.A → ∀ C, C = CW → EqC X C (spWEq K ks CF CW) := fun X h1 h2 h3 h4 h5 hr C e => by
    subst h1 h2 h3 h4 h5 e
    exact T.eqW.eqC hr
  refine ⟨_, pss_cons (ps_par (i := 3) (j := 4) (by rfl) scArr.nd rfl rfl (by decide) rfl rfl (pa_cons (pe_call GF hr7 rfl mF kF bF .nil pass0 (pa_cons (pv 1) pa_nil)) (pa_cons (pe_call GC hr1 rfl mCe kC bC .nil pass0 (pa_cons (pv 1) (pa_cons (pv 2) pa_nil))) pa_nil)) (by rfl))
    (pss_cons (ps_set (i := 5) scArr.nd rfl (Or.inl rfl) (pe_cmethK (pe_glob rfl mC (v := .ref CC) rfl) cr cO T.of0 hr6 (passNo rfl rfl) (pa_cons (pv 3) (pa_cons (pv 2) pa_nil)) pk_nil))
    (pss_cons (ps_for PassesOwn.never rfl (pi_range1 rfl T.range (pa_cons pe_int pa_nil)) (pg_name (i := 6) scArr.nd rfl (Or.inl rfl))
      (pss_cons (ps_setLc (i := 7) (te := teDg) (tt := tYes) (own := [("_law_cell", 11)]) (g := gName 11) rfl scArr.nd rfl rfl (sw_true rfl rfl rfl (by decide +kernel)) (pi_list (pv 4)) (blkOk_by (N := nArr) (sc := defScope sArr) (by decide +kernel)) (fun _ _ _ _ _ => pg_name (i := 11) scArr.nd rfl (Or.inl rfl)) (fun _ _ _ _ _ => pts_nil)
          (fun _ _ _ _ _ => pe_call GD hr1 rfl mD kD bD .nil pass0 (pa_cons (pv 0) (pa_cons (pe_op op_add (pe_dget hu (pv 1) pe_str (fun _ _ => rfl)) pe_int) pa_nil))))
      (pss_cons (ps_set (i := 8) scArr.nd rfl (Or.inl rfl) (pe_callTy (T := "dict") (call_dictP rfl) (by rfl) T.dict (by decide +kernel) (pa_cons
          (pe_lc (te := tTup (tCons (tVar 11) (tCons (tVar 12) tNil))) (tt := ttPr K) (own := [("_law_cell", 11), ("_law_digit", 12)]) (g := gTup K 2 (gCons (gName 11) (gCons (gName 12) gNil))) rfl scArr.nd (Zm.pi_zipX (by rfl) T.zip (pa_cons (pv 4) (pa_cons (pv 7) pa_nil)))
            (blkOk_by (N := nArr) (sc := defScope sArr) (by decide +kernel)) (fun _ _ _ _ _ => pg_tup rfl (pgs_cons (pg_name (i := 11) scArr.nd rfl (Or.inl rfl)) (pgs_cons (pg_name (i := 12) scArr.nd rfl (Or.inl rfl)) pgs_nil)))
            (fun _ _ _ _ _ => pts_one (pt_cmpR op_in_seq (pv 11) (pe_dget hu (pv 1) pe_str (fun _ _ => rfl)) (by rfl))) (fun _ _ _ _ _ => pe_tup (pa_cons (pv 11) (pa_cons (pv 12) pa_nil)))) pa_nil)))
      (pss_cut (ps_set (i := 9) scArr.nd rfl (Or.inl rfl) (pe_ix ix_list (pe_lst (pa_cons (pv 7) (pa_cons (pe_callTy (T := "tuple") call_tuple_of (by rfl) T.tuple (by decide +kernel) (pa_cons (pv 7) pa_nil)) pa_nil))) (pe_call GD hr1 rfl mD kD bD .nil pass0 (pa_cons (pv 0) (pa_cons pe_int pa_nil))) (fun _ _ => rfl)))
      (pss_cut (ps_if (PW.pt (pw_or (pt_cmpR (op_ownE (.inr rfl) (S := fun C => C = CW) (spE := fun _ => spWEq K ks CF CW) (EW _ rfl rfl rfl rfl rfl hr8)) (pe_methK (pv 5) T.clC T.arM T.arK hg hr pass0 (pk_cons (pv 9) pk_nil))
            (pe_cmethK (pe_glob rfl mW (v := .ref CW) rfl) crW cmW GW hr8 pass0 (pa_cons (pv 3) (pa_cons (pv 8) pa_nil)) pk_nil) (nomark _))
          (pw_or1 (pt_cmpR (op_neD hr.units) (pe_callTy (T := "list") call_list_of (by rfl) T.list (by decide +kernel) (pa_cons (pv 9) pa_nil)) (pv 7) (nomark _))))) (pss_one (ps_ret pe_bl)) pss_nil)
      (pss_cons (ps_set (i := 10) scArr.nd rfl (Or.inl rfl) (pe_cmethK (pe_glob rfl mW (v := .ref CW) rfl) crW cmW GW hr8 pass0 (pa_cons (pv 3) (pa_cons (pe_call GL hr3 rfl mL kL bL .nil pass0 (pa_cons (pv 0) (pa_cons (pv 1) pa_nil))) pa_nil)) pk_nil))
      (pss_one (ps_if (pt_cmpR (op_ownE (.inr rfl) (S := fun C => C = CW) (spE := fun _ => spWEq K ks CF CW) (EW _ rfl rfl rfl rfl rfl hr8)) (pe_meth (pv 5) T.clC T.arM GA hr bA .nil pass0 (pa_cons (pe_revL (pe_slice sl_list (pe_callTy (T := "list") call_list_of (by rfl) T.list (by decide +kernel) (pa_cons (pe_meth (pv 5) T.clC T.enM GE hr4 bE .nil pass0 (pa_cons (pv 10) pa_nil)) pa_nil)) (po_some pe_int) po_none)) pa_nil)) (pv 10) (nomark _)) (pss_one (ps_ret pe_bl)) pss_nil))))))))
    (pss_one (ps_ret pe_bl)))), ?_⟩
  -- frame, cells
  refine ⟨_, rfl, b, d, p, rfl, hB, ok, fun f ys H1 hF hk hf s1 => ?_⟩
  have to := told_of ok T.ne hF.so hk
  have hp : Parts ⟨ys, d.t, d.g, d.r⟩ G := ⟨h1, h8, hpm.trans to.pm.symm⟩
  have hL16 : (allN G).length ≤ 16 := by rw [hpm.length_eq, List.length_append]; exact ok.le
  have t1 := ok.t1
  have t3 := ok.t3
  refine ⟨_, rfl, _, rfl, b, p, q, d, G, rfl, hB.same s1, hR.l.same s1, h8, by omega, fun c H2 hc hcv s2 => ?_⟩
  have s12 := s1.trans s2
  refine ⟨_, _, rfl, ?_⟩
  -- made
  refine ⟨rfl, _, rfl, _, rfl, rfl, rfl, f, q, _, G, rfl, .inl (s12 _ _ hR.at_), hF.same s2, fun x hx => .inl (s12 _ _ (hR.row x hx).1), hp, fun m H3 L hm hLG hC s3 => ?_⟩
  have s13 := s12.trans s3
  have hCh : ChIs ks CF CC H3 m f ⟨ys, d.t, d.g, d.r⟩ L := ⟨hC, hF.same (s2.trans s3), hp.rows hLG⟩
  have cp : c ≠ p := nep hP (s1.free hc)
  have hcv3 := s3 _ _ hcv
  obtain ⟨fd, efd⟩ : ∃ fd, fd = (⟨ys, d.t, d.g, d.r⟩ : FrD) := ⟨_, rfl⟩
  have fdt : fd.t = d.t := by rw [efd]
  have fdk : kindZ ks true fd.ys = d.ds := by rw [efd]; exact to.dr
  have ecl : cellsV d.t L = cellsV d.t G := cells_congr hLG
  rw [← efd] at hCh
  have hcl := cells_len d.t G
  obtain ⟨cs0, ecs0⟩ : ∃ cs0, cs0 = cellsV d.t G := ⟨_, rfl⟩
  have lc0 : cs0.length ≤ 32 := by rw [ecs0, hcl]; omega
  rw [← ecs0] at hcv3
  have ndL : (allN L).Nodup := hCh.p.nd hCh.fr
  have ecs : cellsV fd.t L = cs0 := by rw [fdt, ecl, ecs0]
  have nda : ∀ is, ((arrG ks fd cs0 is).map (·.1)).Nodup := fun is => by
    have := arr_names ks fd cs0 is
    rw [← ecs, nm_cells] at this
    rw [← ecs]
    exact List.Nodup.sublist this ndL
  have lga : ∀ is, (arrG ks fd cs0 is).length ≤ 40 := fun is => by
    have := arr_len ks fd cs0 is
    rw [← ecs, nm_cells, allN_map, hLG, ← allN_map] at this
    rw [← ecs]
    omega
  refine ⟨4, rfl, by decide, by decide, for_range (n := 4) (fun i σ H' => (∃ o6 o7 o8 o9 o10, σ = stA p b q f c m o6 o7 o8 o9 o10) ∧ Pen H' p l cs (n + 120 * i) ∧ But H H' p ∧ ChIs ks CF CC H' m f fd L ∧ H' c = some (.lst cs0)) ⟨⟨_, _, _, _, _, rfl⟩, hP.same s13, But.of s13, hCh, hcv3⟩ ?_ ?_⟩
  · rintro i σ H4 hi ⟨⟨o6, o7, o8, o9, o10, rfl⟩, P4, b4, hC4, hc4⟩
    obtain ⟨ps4, hp4⟩ := P4.at'
    -- digits
    refine ⟨_, rfl, c, rfl, ⟨_, SqL.of hc4⟩, fun D hD => ?_⟩
    have Dp_ : D ≠ p := nep P4 hD
    refine lc_it (walk_list (K := K) (a := c) (xs := cs0)) (fun j H' => ∃ is : List Int, is.length = j ∧ (∀ v ∈ is, 0 ≤ v ∧ v ≤ fd.t) ∧ H' D = some (.lst (is.map V.int)) ∧ Pen H' p l cs (n + 120 * i + j) ∧ But H4 H' p)
      ⟨[], rfl, (fun v hv => by cases hv), upd_same, P4.same (same_at hD), But.of (same_at hD)⟩ (fun j H' _ h => by obtain ⟨is, _, _, _, _, bb⟩ := h; exact SqL.of (bb _ _ cp hc4)) ?_ ?_
    · rintro j x Ho Ha hj ⟨is, il, ib, dD, Pj, bj⟩ ⟨rfl, hx⟩
      refine ⟨rfl, ?_⟩
      unfold tYes
      dsimp only
      rw [if_pos rfl]
      obtain ⟨dl, ll, rl, hb, hdl, hll, hrl, hdp, hlp, hrp⟩ := (hB.but hP (b4.trans bj)).ex
      refine ⟨_, rfl, _, rfl, b, _, rfl, DGet.k (k := Sum.inr "top") hb, _, _, rfl, rfl, p, l, cs, _, d.t + 1, rfl, Pj, by omega, by omega, by omega, fun dg i' g' H6 d0 dm i0 in1 hp6 b56 => ?_⟩
      have P6 := Pj.next i0 in1 hp6 b56
      have dD6 := b56 _ _ Dp_ dD
      have np : ∀ o, upd H6 D o p = H6 p := fun o => upd_ne (Ne.symm Dp_)
      refine ⟨_, dD6, ?_, is ++ [dg], by rw [List.length_append, il]; rfl, fun v hv => ?_, ?_, ?_, fun a u ha e => ?_⟩
      · rw [List.length_map, il]
        exact Nat.lt_of_lt_of_le hj (Nat.le_trans lc0 (by decide))
      · rcases List.mem_append.mp hv with hv | hv
        · exact ib v hv
        · obtain rfl := List.mem_singleton.mp hv
          rw [fdt]
          omega
      · rw [upd_same, List.map_append]
        rfl
      · obtain ⟨i'', g'', v1, v2, v3⟩ := P6
        have lD : l ≠ D := fun z => by
          obtain ⟨_, _, _, w2, _⟩ := P4
          rw [z, hD] at w2
          cases w2
        exact ⟨i'', g'', by rw [np]; exact v1, by rw [upd_ne lD]; exact v2, v3⟩
      · rw [upd_ne (ne_of_none e hD)]
        exact b56 _ _ ha (bj _ _ ha e)
    rintro H5 ⟨is, il, ib, dD, P5, b45⟩
    have hC5 := hC4.butq hp4 b45
    have hc5 := b45 _ _ cp hc4
    have b5 : But H H5 p := b4.trans b45
    obtain ⟨ps5, hp5⟩ := P5.at'
    -- due
    refine ⟨_, rfl, _, rfl, c, D, cs0, is.map V.int, true, true, rfl, SqL.of hc5, SqL.of dD, fun D2 hD2 => ?_⟩
    have hilm : (is.map V.int).length = is.length := List.length_map _
    refine lc_it (Zm.walk_zipX (K := K) (k := true) (l := true) (a := c) (b := D) (xs := cs0) (ys := is.map V.int) (by omega)) (fun j H' => Same H5 H' ∧ ∃ ts : List Addr, H' D2 = some (.lst (ts.map V.ref)) ∧ Paired (fun u (kv : Key × V) => H' u = some (.tup [kV kv.1, kv.2])) ts ((((cs0.zip is).take j).flatMap (arr1 ks fd)).map lvRow))
      ⟨same_at hD2, [], upd_same, .nil⟩ (fun j H' _ h => ⟨SqL.of (h.1 _ _ hc5), SqL.of (h.1 _ _ dD)⟩) ?_ ?_
    · rintro j x Ho Ha hj ⟨sa, ts, dts, hpr⟩ ⟨T2, x1, y1, rfl, nT, rfl, hx1, hy1⟩
      obtain ⟨i1, ei, rfl⟩ : ∃ i1, is[j]? = some i1 ∧ V.int i1 = y1 := by
        have hy1 : (is.map V.int)[j]? = some y1 := hy1
        rw [List.getElem?_map] at hy1
        cases e : is[j]? with
        | none => rw [e] at hy1; cases hy1
        | some i1 => rw [e] at hy1; exact ⟨i1, rfl, Option.some.inj hy1⟩
      have hx1 : cs0[j]? = some x1 := hx1
      have sT := same_at (o := .tup [x1, .int i1]) nT
      obtain ⟨Hb, eb⟩ : ∃ Hb, Hb = upd Ho T2 (.tup [x1, .int i1]) := ⟨_, rfl⟩
      have hT : Hb T2 = some (.tup [x1, .int i1]) := by rw [eb, upd_same]
      rw [← eb] at sT ⊢
      have sb := sa.trans sT
      have db := sT _ _ dts
      have hpb := paired_imp hpr fun _ _ r => sT _ _ r
      have sn := arr_snoc (ks := ks) (d := fd) hx1 ei
      obtain ⟨dl, ll, rl, hb, hdl, hll, hrl, hdp, hlp, hrp⟩ := ((hB.but hP b5).same sb).ex
      have stop : arr1 ks fd (x1, i1) = [] → Same H5 Hb ∧ ∃ ts : List Addr, Hb D2 = some (.lst (ts.map V.ref)) ∧ Paired (fun u (kv : Key × V) => Hb u = some (.tup [kV kv.1, kv.2])) ts ((((cs0.zip is).take (j + 1)).flatMap (arr1 ks fd)).map lvRow) := fun e => by
        rw [sn, e, List.append_nil]
        exact ⟨sb, ts, db, hpb⟩
      refine ⟨T2, _, rfl, SqT.of hT, rfl, _, _, rfl, _, _, rfl, rfl, rfl, ?_⟩
      have hx := cell_mem (t := d.t) (L := G) (c := x1) (by rw [← ecs0]; exact List.mem_of_getElem? hx1)
      refine ⟨_, rfl, _, rfl, b, _, rfl, DGet.k (k := Sum.inr "drivers") hb, dl, strv d.ds, rfl, .inl (SqL.of hdl), (by rcases hx with ⟨z, _, rfl⟩ | ⟨u, rfl⟩ <;> rfl), flat_strs _, _, rfl, ?_⟩
      rcases hx with ⟨z, hz, rfl⟩ | ⟨u, rfl⟩
      · have eT : (if (false : Bool) = true then !inV (V.str z) (strv d.ds) else inV (V.str z) (strv d.ds)) = decide (z ∈ d.ds) := inV_strs d.ds z
        rw [eT]
        by_cases hzd : z ∈ d.ds
        · rw [decide_eq_true hzd]
          have e1 : arr1 ks fd (.str z, i1) = [(z, i1)] := if_pos (by rw [fdk]; exact hzd)
          have lts : ts.length ≤ 40 := by
            rw [Paired.length hpb, List.length_map]
            exact Nat.le_trans (arr_take cs0 is j).length_le (lga is)
          refine ⟨_, rfl, _, rfl, by show 2 ≤ sizeLine; decide, fun u hu' => ?_⟩
          have sU := same_at (o := .tup [V.str z, .int i1]) hu'
          refine ⟨_, sU _ _ db, ?_, fun a o ha => ?_, ts ++ [u], ?_, ?_⟩
          · rw [List.length_map]
            exact Nat.lt_of_le_of_lt lts (by decide)
          · rw [upd_ne (ne_of_none ha hD2)]
            exact sU _ _ (sb _ _ ha)
          · rw [upd_same, List.map_append]
            rfl
          · rw [sn, e1, List.map_append]
            have keep : ∀ {a : Addr} {xs : List V}, upd Hb u (.tup [V.str z, .int i1]) a = some (.tup xs) → upd (upd Hb u (.tup [V.str z, .int i1])) D2 (.lst (ts.map V.ref ++ [.ref u])) a = some (.tup xs) := fun e => by
              rw [upd_ne (ne_of e (sU _ _ db) (by intro z; cases z))]
              exact e
            exact Paired.snoc (paired_imp hpb fun _ _ r => keep (sU _ _ r)) (keep upd_same)
        · rw [decide_eq_false hzd]
          exact stop (if_neg (by rw [fdk]; exact hzd))
      · have eT : (if (false : Bool) = true then !inV (V.int u) (strv d.ds) else inV (V.int u) (strv d.ds)) = false := inV_int u d.ds
        rw [eT]
        exact stop rfl
    rintro H6 ⟨s56, ts, d2, hpr⟩
    have ez : (cs0.zip is).take cs0.length = cs0.zip is := List.take_of_length_le (by rw [List.length_zip]; omega)
    rw [ez] at hpr
    obtain ⟨gv, egv⟩ : ∃ gv, gv = arrG ks fd cs0 is := ⟨_, rfl⟩
    have hpr : Paired (fun u (kv : Key × V) => H6 u = some (.tup [kV kv.1, kv.2])) ts (gv.map lvRow) := by rw [egv]; exact hpr
    have gnd : (gv.map (·.1)).Nodup := by rw [egv]; exact nda is
    have mg_ : mergeK [] (gv.map lvRow) = gv.map lvRow := by
      rw [merge_app, List.nil_append]
      rw [List.nil_append, List.map_map]
      have e : gv.map ((fun p : Key × V => p.1) ∘ lvRow) = (gv.map (·.1)).map fun z => (Sum.inr z : Key) := by rw [List.map_map]; rfl
      rw [e]
      exact List.Pairwise.map _ (fun a b ne e => ne (Sum.inr.inj e)) gnd
    refine ⟨D2, ts, gv.map lvRow, rfl, SqL.of d2, paired_imp hpr (fun _ _ r => SqT.of r), fun e he => ?_⟩
    rw [mg_]
    have s6 := same_at (o := .dK (gv.map lvRow)) he
    obtain ⟨H7, eH7⟩ : ∃ H7, H7 = upd H6 e (.dK (gv.map lvRow)) := ⟨_, rfl⟩
    have he7 : H7 e = some (.dK (gv.map lvRow)) := by rw [eH7, upd_same]
    rw [← eH7] at s6 ⊢
    have s57 := s56.trans s6
    have P7 := P5.same s57
    have b7 := b5.same s57
    have hC7 := hC5.same s57
    have dD7 := s57 _ _ dD
    have hc7 := s57 _ _ hc5
    have gok : LvOk ks fd gv := ⟨by rw [egv]; exact Nat.le_trans (lga is) (by decide), fun p hp => by
      rw [egv] at hp
      obtain ⟨m1, m2⟩ := arr_mem hp
      exact ⟨m1, ib _ m2⟩⟩
    have ep : e ≠ p := nep P5 (s56.free he)
    -- given
    refine ⟨fun σ H' => ∃ g o6', σ = stA p b q f c m o6' (some (.ref D)) (some (.ref e)) (some (.ref g)) o10 ∧ GivI H' g is ∧ H' D = some (.lst (is.map V.int)) ∧ H' e = some (.dK (gv.map lvRow)) ∧ H' c = some (.lst cs0) ∧ Pen H' p l cs (n + 120 * i + 33) ∧ But H H' p ∧ ChIs ks CF CC H' m f fd L, ?_, ?_⟩
    · refine ⟨_, rfl, _, rfl, D, _, rfl, .inl ⟨SqL.of dD7, fun u hu' => ⟨by show 2 ≤ sizeLine; decide, fun v hv => ?_⟩⟩⟩
      have sU := same_at (o := .tup (is.map V.int)) hu'
      have sV := same_at (o := .lst [V.ref D, .ref u]) hv
      have sUV := sU.trans sV
      have vp : v ≠ p := nep P7 (sU.free hv)
      refine ⟨_, rfl, p, l, cs, _, 2, rfl, P7.same sUV, by decide, by decide, by omega, fun dg i' g' H9 d0 dm i0 in1 hp9 b9 => ?_⟩
      have P9 := (P7.same sUV).next i0 in1 hp9 b9
      have v9 := b9 _ _ vp upd_same
      obtain ⟨ps7, hp7⟩ := (P7.same sUV).at'
      have b79 : But H7 H9 p := (But.of sUV).trans b9
      have fin : ∀ g, GivI H9 g is → ∃ g_1 o6', stA p b q f c m (some (.int (0 + (i : Nat)))) (some (.ref D)) (some (.ref e)) (some (.ref g)) o10 = stA p b q f c m o6' (some (.ref D)) (some (.ref e)) (some (.ref g_1)) o10 ∧ GivI H9 g_1 is ∧ H9 D = some (.lst (is.map V.int)) ∧ H9 e = some (.dK (gv.map lvRow)) ∧ H9 c = some (.lst cs0) ∧ Pen H9 p l cs (n + 120 * i + 33) ∧ But H H9 p ∧ ChIs ks CF CC H9 m f fd L := fun g hg => by
        exact ⟨g, _, rfl, hg, b79 _ _ Dp_ dD7, b79 _ _ ep he7, b79 _ _ cp hc7, P9.mono (by omega), b7.trans b79, (hC7.same sUV).butq hp7 b9⟩
      rcases (show dg = 0 ∨ dg = 1 by omega) with rfl | rfl
      · exact ⟨v, _, _, _, rfl, rfl, SqL.of v9, atI_nat (j := 0) rfl, fin D (.inl (b79 _ _ Dp_ dD7))⟩
      · exact ⟨v, _, _, _, rfl, rfl, SqL.of v9, atI_nat (j := 1) rfl, fin u (.inr (b9 _ _ (nep P7 hu') (sV _ _ upd_same)))⟩
    rintro σ H8 ⟨g, o6', rfl, hg8, dD8, he8, hc8, P8, b8, hC8⟩
    clear hC5 hC7 P5 P7 b5 b7 hp5 hp4 b45 s57 s6 s56 hc5 hc7 dD dD7 he7 eH7 d2 hpr he hD hD2 hC4 P4 b4 hc4 ep
    obtain ⟨ps8, hp8⟩ := P8.at'
    -- it is this word
    refine ⟨fun σ H' => σ = stA p b q f c m o6' (some (.ref D)) (some (.ref e)) (some (.ref g)) o10 ∧ Same H8 H', ?_, ?_⟩
    · obtain ⟨dx, B, c1, _⟩ := hC8.at_
      obtain ⟨kk, hkk⟩ := hg8.sq (K := K)
      refine ⟨_, rfl, m, dx, _, rfl, c1, chF_no (by decide +kernel) (by decide +kernel), _, rfl, rfl, m, f, fd, L, g, kk, is, rfl, hC8, by omega, by omega, hkk _ (Same.refl _), hkk, by rw [ecs]; exact il, ib, fun a1 H9 ha1 hw1 s89 => ?_⟩
      rw [ecs, ← egv] at hw1
      refine ⟨rfl, _, rfl, _, rfl, rfl, rfl, f, e, fd, gv, rfl, hC8.fr.same s89, s89 _ _ he8, gok, by omega, by omega, fun a2 H10 ha2 hw2 s90 _ => ?_⟩
      refine wd_eq T.icW T.nfW (hw1.same s90) hw2 (eqWd_same fun z hz => rfl) fun H11 s11 => ⟨false, rfl, iteF ?_⟩
      have s8 := s89.trans (s90.trans s11)
      have hg11 := hg8.same s8
      have lst : ∃ xs, (SqL K H11 g xs ∨ SqT K H11 g xs) ∧ xs = is.map V.int := by
        rcases hg11 with h | h
        · exact ⟨_, .inl (SqL.of h), rfl⟩
        · exact ⟨_, .inr (SqT.of h), rfl⟩
      obtain ⟨xs, hxs, exs⟩ := lst
      refine ⟨_, rfl, g, xs, rfl, hxs, fun u hu' => ?_⟩
      rw [exs]
      have sU := same_at (o := .lst (is.map V.int)) hu'
      refine ⟨_, rfl, .list (is.map PyData.int), .list (is.map PyData.int), .lst (SqL.of upd_same) (dp_ints2 is), .lst (SqL.of (sU _ _ (s8 _ _ dD8))) (dp_ints2 is), shaped_ints is, shaped_ints is, _, rfl, ?_⟩
      rw [SeqAt.eqv_refl _ (SeqAt.canLay_of_shaped (shaped_ints is))]
      exact iteF ⟨rfl, s8.trans sU⟩
    rintro σ H9 ⟨rfl, s89⟩
    have P9 := P8.same s89
    have b9 := b8.same s89
    have hC9 := hC8.same s89
    have hc9 := s89 _ _ hc8
    clear hC8 P8 b8 hp8 hg8 dD8 he8 hc8 s89
    obtain ⟨ps9, hp9⟩ := P9.at'
    -- the word
    refine ⟨rfl, _, rfl, _, rfl, _, rfl, p, l, cs, _, b, d, rfl, P9, hB.but hP b9, ok, by omega, fun Dl hv HA hvB hvn hLv hDl PA bA' => ?_⟩
    have hCA := hC9.butq hp9 bA'
    have bA2 := b9.trans bA'
    have hcA := bA' _ _ cp hc9
    have lvok : LvOk ks fd hv := ⟨hvB.1, fun x hx => by
      obtain ⟨v1, v2, v3⟩ := hvB.2 x hx
      exact ⟨by rw [fdk]; exact v1, v2, by rw [fdt]; exact v3⟩⟩
    refine ⟨rfl, rfl, f, Dl, fd, hv, rfl, hCA.fr, hLv, lvok, by omega, by omega, fun wa HB hwa hW sAB _ => ?_⟩
    have hCB := hCA.same sAB
    have PB := PA.same sAB
    have bB := bA2.same sAB
    have hcB := sAB _ _ hcA
    obtain ⟨dx, B, c1, _⟩ := hCB.at_
    -- it arrives
    refine ⟨_, rfl, m, dx, _, rfl, c1, chF_no (by decide +kernel) (by decide +kernel), _, rfl, m, dx, _, rfl, c1, chF_no (by decide +kernel) (by decide +kernel), _, rfl, m, f, fd, L, wa, fd, hv, rfl, hCB, hW, fun z hz => hz, fun pc HC hpc hvc sBC => ?_⟩
    rw [digV_eq] at hvc
    obtain ⟨I, eI⟩ : ∃ I, I = digI (wlv ks fd hv) fd.t (L.map (·.2)) := ⟨_, rfl⟩
    rw [← eI] at hvc
    refine ⟨pc, _, rfl, .inr (SqT.of hvc), fun u1 hu1 => ?_⟩
    have s1' := same_at (o := .lst (V.int 0 :: .int fd.t :: (I.map V.int).reverse)) hu1
    refine ⟨2, rfl, u1, _, rfl, SqL.of upd_same, fun u2 hu2 => ?_⟩
    rw [show cutV (V.int 0 :: .int fd.t :: (I.map V.int).reverse) (some 2) none = (I.map V.int).reverse from cut_dropV (k := 2) _ (by simp only [List.length_cons]; omega)]
    have s2' := same_at (o := .lst (I.map V.int).reverse) hu2
    refine ⟨u2, _, rfl, SqL.of upd_same, fun u3 hu3 => ?_⟩
    rw [List.reverse_reverse]
    have s3' := same_at (o := .lst (I.map V.int)) hu3
    have sD := s1'.trans (s2'.trans s3')
    have sBD := sBC.trans sD
    obtain ⟨HD, eHD⟩ : ∃ HD, HD = upd (upd (upd HC u1 (.lst (V.int 0 :: .int fd.t :: (I.map V.int).reverse))) u2 (.lst (I.map V.int).reverse)) u3 (.lst (I.map V.int)) := ⟨_, rfl⟩
    have hu3' : HD u3 = some (.lst (I.map V.int)) := by rw [eHD, upd_same]
    rw [← eHD] at sBD ⊢
    have hIl : I.length = (cellsV fd.t L).length := by
      rw [← dig_len ks fd hv fd.t L, digV_eq, ← eI, List.length_map]
    have hIb : ∀ v ∈ I, 0 ≤ v ∧ v ≤ fd.t := fun v hv' => by
      rw [eI] at hv'
      obtain ⟨r, hr', hv'⟩ := List.mem_flatMap.mp hv'
      rcases List.mem_append.mp hv' with hv' | hv'
      · obtain ⟨z, hz, rfl⟩ := List.mem_map.mp hv'
        rw [wlv_eq]
        by_cases hzk : z ∈ kindZ ks true fd.ys
        · rw [if_pos hzk]
          exact lvl_le lvok (by omega) z
        · rw [if_neg hzk]
          omega
      · simp only [List.mem_cons, List.not_mem_nil, or_false, or_self] at hv'
        omega
    refine ⟨m, f, fd, L, u3, true, I, rfl, hCB.same sBD, by omega, by omega, SqL.of hu3', fun H' s => SqL.of (s _ _ hu3'), hIl, hIb, fun a3 HE ha3 hw3 sDE => ?_⟩
    refine ⟨_, rfl, wd_eq T.icW T.nfW hw3 (hW.same (sBD.trans sDE)) (eqWd_same fun z hz => ?_) fun HF sEF => ⟨false, rfl, iteF ?_⟩⟩
    · rw [eI, lvl_arr ndL hz (hCB.p.pm.mem_iff.mpr ?_), wlv_eq, if_pos hz]
      obtain ⟨r, hr', e1, _⟩ := kind_leg hz
      exact List.mem_map.mpr ⟨r, hr', e1⟩
    have sBF := sBD.trans (sDE.trans sEF)
    exact ⟨⟨_, _, _, _, _, rfl⟩, (PB.same sBF).mono (by omega), bB.same sBF, hCB.same sBF, sBF _ _ hcB⟩
  · rintro σ H' ⟨⟨o6, o7, o8, o9, o10, rfl⟩, P', b', _⟩
    exact k H' (P'.mono (by omega)) b'
end
end Sj
namespace Sj
open PySem L2 Sup StK Own Shw Exg Grd KepE LamX
open NdefX (NF NScope ncx envF startF nscope_by)
open C8 (pss_cut tCut)
/-! k67: what is drawn for hurt links -/
def okI : List Int := [0, 1, 8, 3, 2]
def okZ : List Str := ["a", "ground", "power", "nothing", "zzzzzzzz", "link"]
def badZ : List Str := ["", "A", "a b", "zzzzzzzzz"]
theorem IntIs.ext {K : PySem.W.Frag} {H H' : Hp} {x : V} {lo hi : Int} {b : Bool} (h : IntIs K H x lo hi b) (s : ExtN H H') : IntIs K H' x lo hi b := h.imp id fun ⟨t, m, c, ty, r⟩ => ⟨t, m, c, tyx_ext ty s, r⟩
theorem inS_ext {K : PySem.W.Frag} {H H' : Hp} {zs : List Str} {x : V} {b : Bool} (h : InS K H zs x b) (s : ExtN H H') : InS K H' zs x b := by
  cases h with
  | str z => exact .str z
  | non => exact .non
  | bl b => exact .bl b
  | int i => exact .int i
  | lst q => exact .lst (sqL_ext q s)
  | tup q => exact .tup (sqT_ext q s)
  | dic q => exact .dic (s _ _ q (fun ps z => by cases z))
/-- a value for the link's number -/
inductive AtV (K : PySem.W.Frag) (H : Hp) : V → Bool → Prop
  | good {i : Int} (h : i ∈ okI) : AtV K H (.int i) true
  | bad {x : V} (h : IntIs K H x 0 8 false) : AtV K H x false
theorem okI_le : ∀ i ∈ okI, 0 ≤ i ∧ i ≤ 8 := by decide
theorem AtV.is {K : PySem.W.Frag} {H : Hp} {x : V} {b : Bool} (h : AtV K H x b) : IntIs K H x 0 8 b := by
  cases h with
  | good h => exact .inl ⟨_, rfl, by rw [decide_eq_true (okI_le _ h).1, decide_eq_true (okI_le _ h).2]; rfl⟩
  | bad h => exact h
theorem AtV.ext {K : PySem.W.Frag} {H H' : Hp} {x : V} {b : Bool} (h : AtV K H x b) (s : ExtN H H') : AtV K H' x b := by
  cases h with
  | good h => exact .good h
  | bad h => exact .bad (h.ext s)
/-- a value for the name -/
inductive TgV (K : PySem.W.Frag) (H : Hp) : V → Bool → Prop
  | good {z : Str} (h : z ∈ okZ) : TgV K H (.str z) true
  | bad {z : Str} (h : z ∈ badZ) : TgV K H (.str z) false
  | odd {x : V} {t : String} (ty : TyX K H x (.type t)) (e : kitB t "str" = some false) (i : InS K H resZ x false) : TgV K H x false
theorem TgV.ext {K : PySem.W.Frag} {H H' : Hp} {x : V} {b : Bool} (h : TgV K H x b) (s : ExtN H H') : TgV K H' x b := by
  cases h with
  | good h => exact .good h
  | bad h => exact .bad h
  | odd ty e i => exact .odd (tyx_ext ty s) e (inS_ext i s)
theorem okZ_all : ∀ z ∈ okZ, lName z = true ∧ (isName z || decide (z ∈ resZ)) = true ∧ z.length ≤ 9 := by
  have h : (okZ.all fun z => lName z && (isName z || decide (z ∈ resZ)) && decide (z.length ≤ 9)) = true := by decide +kernel
  intro z hz
  have e := List.all_eq_true.mp h z hz
  rw [Bool.and_eq_true, Bool.and_eq_true, decide_eq_true_eq] at e
  exact ⟨e.1.1, e.1.2, e.2⟩
theorem badZ_all : ∀ z ∈ badZ, lName z = false ∧ (isName z || decide (z ∈ resZ)) = false ∧ z.length ≤ 9 := by
  have h : (badZ.all fun z => !lName z && !(isName z || decide (z ∈ resZ)) && decide (z.length ≤ 9)) = true := by decide +kernel
  intro z hz
  have e := List.all_eq_true.mp h z hz
  rw [Bool.and_eq_true, Bool.and_eq_true, decide_eq_true_eq, Bool.not_eq_true', Bool.not_eq_true'] at e
  exact ⟨e.1.1, e.1.2, e.2⟩
theorem TgV.nm {K : PySem.W.Frag} {H : Hp} {x : V} {b : Bool} (h : TgV K H x b) : NmO K H x b := by
  cases h with
  | good h => exact .inl ⟨_, rfl, Nat.le_trans (okZ_all _ h).2.2 (by decide), (okZ_all _ h).2.1.symm⟩
  | bad h => exact .inl ⟨_, rfl, Nat.le_trans (badZ_all _ h).2.2 (by decide), (badZ_all _ h).2.1.symm⟩
  | odd ty e i => exact .inr ⟨_, ty, e, i, rfl⟩
theorem TgV.law {K : PySem.W.Frag} {H : Hp} {x : V} {b : Bool} (h : TgV K H x b) : (∃ z : Str, x = .str z ∧ z.length ≤ 1000 ∧ lName z = b) ∨ ∃ t : String, TyX K H x (.type t) ∧ kitB t "str" = some false ∧ b = false := by
  cases h with
  | good h => exact .inl ⟨_, rfl, Nat.le_trans (okZ_all _ h).2.2 (by decide), (okZ_all _ h).1⟩
  | bad h => exact .inl ⟨_, rfl, Nat.le_trans (badZ_all _ h).2.2 (by decide), (badZ_all _ h).1⟩
  | odd ty e i => exact .inr ⟨_, ty, e, rfl⟩
def atL (t1 l1 : Addr) : List V := [.int 0, .int 1, .int 8, .int 9, .int (-1), .bl true, .bl false, .non, .str "1", .ref t1, .int 3, .int 2, .ref l1, .int (10 ^ 50)]
def tgL (t2 : Addr) : List V := [.str "a", .str "ground", .str "power", .str "nothing", .str "zzzzzzzz", .str "link", .str "", .str "A", .non, .int 5, .ref t2, .str "a b", .str "zzzzzzzzz", .bl true]
theorem atL_is {K : PySem.W.Frag} {H : Hp} {t1 l1 : Addr} {x : V} (hx : x ∈ atL t1 l1) (h1 : H t1 = some (.tup [.int 1])) (h2 : H l1 = some (.lst [])) : ∃ b, AtV K H x b := by
  unfold atL at hx
  simp only [List.mem_cons, List.not_mem_nil, or_false] at hx
  rcases hx with rfl | rfl | rfl | rfl | rfl | rfl | rfl | rfl | rfl | rfl | rfl | rfl | rfl | rfl
  · exact ⟨true, .good (by decide)⟩
  · exact ⟨true, .good (by decide)⟩
  · exact ⟨true, .good (by decide)⟩
  · exact ⟨false, .bad (.inl ⟨_, rfl, by decide +kernel⟩)⟩
  · exact ⟨false, .bad (.inl ⟨_, rfl, by decide +kernel⟩)⟩
  · exact ⟨false, .bad (.inr ⟨"bool", true, true, .base (.bl _), by decide +kernel, by decide +kernel, rfl, rfl⟩)⟩
  · exact ⟨false, .bad (.inr ⟨"bool", true, true, .base (.bl _), by decide +kernel, by decide +kernel, rfl, rfl⟩)⟩
  · exact ⟨false, .bad (.inr ⟨"NoneType", false, false, .base .non, by decide +kernel, by decide +kernel, rfl, rfl⟩)⟩
  · exact ⟨false, .bad (.inr ⟨"str", false, false, .base (.str _), by decide +kernel, by decide +kernel, rfl, rfl⟩)⟩
  · exact ⟨false, .bad (.inr ⟨"tuple", false, false, .base (.tup h1), by decide +kernel, by decide +kernel, rfl, rfl⟩)⟩
  · exact ⟨true, .good (by decide)⟩
  · exact ⟨true, .good (by decide)⟩
  · exact ⟨false, .bad (.inr ⟨"list", false, false, .base (.lst h2), by decide +kernel, by decide +kernel, rfl, rfl⟩)⟩
  · exact ⟨false, .bad (.inl ⟨_, rfl, by decide +kernel⟩)⟩
theorem tgL_is {K : PySem.W.Frag} {H : Hp} {t2 : Addr} {x : V} (hx : x ∈ tgL t2) (h1 : H t2 = some (.tup [.str "a"])) : ∃ b, TgV K H x b := by
  unfold tgL at hx
  simp only [List.mem_cons, List.not_mem_nil, or_false] at hx
  rcases hx with rfl | rfl | rfl | rfl | rfl | rfl | rfl | rfl | rfl | rfl | rfl | rfl | rfl | rfl
  · exact ⟨true, .good (by decide +kernel)⟩
  · exact ⟨true, .good (by decide +kernel)⟩
  · exact ⟨true, .good (by decide +kernel)⟩
  · exact ⟨true, .good (by decide +kernel)⟩
  · exact ⟨true, .good (by decide +kernel)⟩
  · exact ⟨true, .good (by decide +kernel)⟩
  · exact ⟨false, .bad (by decide +kernel)⟩
  · exact ⟨false, .bad (by decide +kernel)⟩
  · exact ⟨false, .odd (t := "NoneType") (.base .non) (by decide +kernel) .non⟩
  · exact ⟨false, .odd (t := "int") (.base (.int _)) (by decide +kernel) (.int _)⟩
  · exact ⟨false, .odd (t := "tuple") (.base (.tup h1)) (by decide +kernel) (.tup (SqT.of h1))⟩
  · exact ⟨false, .bad (by decide +kernel)⟩
  · exact ⟨false, .bad (by decide +kernel)⟩
  · exact ⟨false, .odd (t := "bool") (.base (.bl _)) (by decide +kernel) (.bl _)⟩
/-- what Hurt of these raises -/
def rHu (b1 b2 : Bool) : Option (Bool × Str) := if b1 then (if b2 then none else some (false, "name")) else some (false, "link")
/-! what is shown -/
theorem hu_fit : ∀ k ∈ okI, ∀ z ∈ okZ, ShN.FitN (.list [.int k, .str z, .str (huStr k z)]) := by
  have h : (okI.all fun k => okZ.all fun z => PyData.showable (.list [.int k, .str z, .str (huStr k z)]) && decide ((PyData.list [.int k, .str z, .str (huStr k z)]).depth ≤ 60) && decide ((PyData.list [.int k, .str z, .str (huStr k z)]).shown.length ≤ 1000)) = true := by decide +kernel
  intro k hk z hz
  have e := List.all_eq_true.mp (List.all_eq_true.mp h k hk) z hz
  rw [Bool.and_eq_true, Bool.and_eq_true, decide_eq_true_eq, decide_eq_true_eq] at e
  exact ⟨e.1.1, e.1.2, Nat.le_trans e.2 (by decide), rfl⟩
theorem hu_sh : ∀ k ∈ okI, ∀ z ∈ okZ, SeqAt.shaped (.tuple [.int k, .str z]) = true := by
  have h : (okI.all fun k => okZ.all fun z => SeqAt.shaped (.tuple [.int k, .str z])) = true := by decide +kernel
  intro k hk z hz
  exact List.all_eq_true.mp (List.all_eq_true.mp h k hk) z hz
theorem hu_eqv : ∀ k ∈ okI, ∀ z ∈ okZ, ∀ j ∈ okI, ∀ u ∈ okZ, PyData.eqv (.tuple [.int k, .str z]) (.tuple [.int j, .str u]) = (decide (k = j) && decide (z = u)) := by
  have h : (okI.all fun k => okZ.all fun z => okI.all fun j => okZ.all fun u => PyData.eqv (.tuple [.int k, .str z]) (.tuple [.int j, .str u]) == (decide (k = j) && decide (z = u))) = true := by decide +kernel
  intro k hk z hz j hj u hu
  exact eq_of_beq (List.all_eq_true.mp (List.all_eq_true.mp (List.all_eq_true.mp (List.all_eq_true.mp h k hk) z hz) j hj) u hu)
theorem hu_txt (k : Int) (z : Str) : ((("link " : Str) ++ (toString k : Str)) ++ (" " : Str)) ++ z = huStr k z := by
  unfold huStr
  rw [show (("" : Str) ++ ("link " : Str)) = ("link " : Str) from by decide +kernel]
/-! Hurt by words -/
section
variable {P : Program} {w : World} {K : PySem.W.Frag} {mg : Str → Option Value} {base : Heap}
theorem vals_rev {vs : List V} {us : List Value} (r : Vals vs us) : Vals vs.reverse us.reverse := by
  induction r with
  | nil => exact .nil
  | cons r t ih =>
    rw [List.reverse_cons, List.reverse_cons]
    exact ih.append (.cons r .nil)
theorem hu_kw {f CI CH : Addr} {fd : FuncData} (F : FunD K "__init__" "Hurt.__init__" (defArgs sHuI) (defBody sHuI) (defScope sHuI) [] [] f fd) (G : FnOk P w K mg base (L2.CX P w) 3 f fd ["self", "link", "name"] (spHuI K CI CH)) :
    FnK P w K mg base (L2.CX P w) 3 f ["name", "link"] (fun vs zs H Q E => vs.length = 1 ∧ spHuI K CI CH (vs ++ zs.reverse) H Q E) := by
  have hb : KBn K fd ["self", "link", "name"] 1 ["name", "link"] (fun us ws => us ++ ws.reverse) (fun vs zs => vs ++ zs.reverse) := by
    obtain ⟨oc, od, dV, kV, doc, pm, an, cdv, ct, osl, rfl, lk, hcd, hD, hK⟩ := F.ex
    rcases hD with ⟨_, rfl⟩ | ⟨e, _⟩
    case inr => exact absurd rfl e
    exact ⟨fun s us ws X h1 h2 => match us, ws, h1, h2 with
      | [a], [b, c], _, _ => .of_eq rfl, fun r1 r2 => r1.append (vals_rev r2)⟩
  exact fnK_of G hb
end
theorem HuAt.ext {H H' : Hp} {o CH : Addr} {k : Int} {z : Str} (h : HuAt H o CH k z) (s : ExtN H H') : HuAt H' o CH k z := by
  obtain ⟨dx, h1, h2⟩ := h
  exact ⟨dx, s _ _ h1 (fun ps z => by cases z), h2⟩
/-- two hurt links under == or != -/
theorem huq_rd {K : PySem.W.Frag} {CH a b : Addr} {H : Hp} {k j : Int} {z u : Str} {op : CmpOp} {Q : VK} (ic : IsiC K CH) (nf : PySem.W.notFirst K CH (.ref CH) = true) (ha : HuAt H a CH k z) (hb : HuAt H b CH j u)
    (q : Q (.bl (ansOf op (decide (k = j) && decide (z = u)))) H) : rOwnE K op (fun C => C = CH) (fun _ => spHuQ K CH) (.ref a) (.ref b) H Q := by
  obtain ⟨dx, h1, _⟩ := id ha
  obtain ⟨dy, g1, _⟩ := id hb
  exact ⟨a, CH, dx, _, rfl, h1, rfl, .inl ⟨.ref CH, .base (.ins g1 ic.cl ic.ca ic.cn ic.ct ic.cm), nf, a, k, z, _, rfl, ha, .inl ⟨b, j, u, rfl, hb, ⟨_, rfl, q⟩⟩⟩⟩
theorem huo_rd {K : PySem.W.Frag} {CH a : Addr} {H : Hp} {k : Int} {z : Str} {op : CmpOp} {Q : VK} {y : V} {t : Value} (ha : HuAt H a CH k z) (ty : TyX K H y t) (nf : PySem.W.notFirst K CH t = true) (ko : PySem.W.kitOne K t (.ref CH) = some false)
    (q : Q (.bl (ansOf op false)) H) : rOwnE K op (fun C => C = CH) (fun _ => spHuQ K CH) (.ref a) y H Q := by
  obtain ⟨dx, h1, _⟩ := id ha
  exact ⟨a, CH, dx, _, rfl, h1, rfl, .inl ⟨t, ty, nf, a, k, z, _, rfl, ha, .inr ⟨t, ty, ko, ⟨_, rfl, q⟩⟩⟩⟩
end Sj
namespace Sj
open PySem L2 Sup StK Own Shw Exg Grd KepE LamX
open NdefX (NF NScope ncx envF startF nscope_by)
open C8 (pss_cut tCut)
/-! k67: _law_hurt_right -/
abbrev sHr : Stmt := top 66
abbrev nHr : List Str := ["_law_pen_here", "_law_some", "_law_tags_here", "_law_known", "_law_turn", "_law_due", "_law_made", "_law_pair", "_law_at", "_law_tag", "_law_other", "_law_more"]
theorem scHr : FnScope nHr ["_law_pen_here"] (defScope sHr) := ⟨rfl, rfl, rfl, by decide +kernel, rfl, by decide +kernel, by decide +kernel⟩
abbrev qHr : Str := (("_law_hurt_right" : Str) ++ ".<locals>.") ++ "<lambda>"
abbrev qBr : Str := (("_law_bench_right" : Str) ++ ".<locals>.") ++ "<lambda>"
abbrev tab2 (Ph Pb : Addr) : List (Addr × Str) := [(Ph, qHr), (Pb, qBr)]
structure HrT (P : Program) (w : World) (K : PySem.W.Frag) (mg : Str → Option Value) (base : Heap) (CI CJ CE CH fHi : Addr) : Prop where
  pick : Fi P w K mg base "_law_pick" 2 ["_law_pen_here", "_law_some"] spPick
  lin : Fi P w K mg base "_law_is_name" 1 ["_law_thing"] (spLin K)
  he : ∃ g fdg, mg "_law_heard" = some (.ref g) ∧ Fun K "_law_heard" "_law_heard" sHea g fdg ∧ Binds K fdg ["_law_ask"] []
  ht : HeT K mg CE CI CJ
  mH : mg "Hurt" = some (.ref CH)
  mkH : Mk K CH fHi
  hK : FnK P w K mg base (L2.CX P w) 3 fHi ["name", "link"] (fun vs zs H Q E => vs.length = 1 ∧ spHuI K CI CH (vs ++ zs.reverse) H Q E)
  hO : ∃ fd, Binds K fd ["self", "link", "name"] [] ∧ FnOk P w K mg base (L2.CX P w) 3 fHi fd ["self", "link", "name"] (spHuI K CI CH)
  link : PropN P w K mg base 1 CH "link" (spHuL CH)
  strH : ∃ g fd, PySem.W.findIn K (.ref CH) "__str__" = some (some (.ref g)) ∧ PySem.W.isFn K (.ref g) = true ∧ FnOk P w K mg base CX0 1 g fd ["self"] (spHuS CH) ∧ Binds K fd ["self"] []
  eqH : EqN P w K mg base 1 CH (spHuQ K CH)
  cl : Cls K CH
  ic : IsiC K CH
  nN : NoAttr K CH "name"
  nfH : PySem.W.notFirst K CH (.ref CH) = true
  nfT : PySem.W.notFirst K CH (.type "tuple") = true
  nfS : PySem.W.notFirst K CH (.type "str") = true
  nfN : PySem.W.notFirst K CH (.type "NoneType") = true
  koT : PySem.W.kitOne K (.type "tuple") (.ref CH) = some false
  koS : PySem.W.kitOne K (.type "str") (.ref CH) = some false
  koN : PySem.W.kitOne K (.type "NoneType") (.ref CH) = some false
  range : mg "range" = none
  isi : mg "isinstance" = none
  int : mg "int" = none
  bool : mg "bool" = none
  str : mg "str" = none
  repr : mg "repr" = none
def teHu (K : PySem.W.Frag) (CI CH : Addr) : XK → TE := fun E => tMakeS CH (["name", "link"] : List Str).length (fun vs zs H Q E => vs.length = 1 ∧ spHuI K CI CH (vs ++ zs.reverse) H Q E) E tNil (tCons (tVar 9) (tCons (tVar 8) tNil))
abbrev rHE (K : PySem.W.Frag) (CH : Addr) (op : CmpOp) : R2 := rOwnE K op (fun C => C = CH) (fun _ => spHuQ K CH)
def ttKn (K : PySem.W.Frag) (CH : Addr) : TT := tOr (tTest (tOp rNe (tOp (rHE K CH .Eq) (tVar 6) (tVar 10)) (tOp (rEqD K) (tVar 7) (tVar 11)))) (tTest (tOp rEq (tOp (rHE K CH .NotEq) (tVar 6) (tVar 10)) (tOp (rEqD K) (tVar 7) (tVar 11))))
def spHr (T : List (Addr × Str)) : Sp := fun vs H Q _ => ∃ (p l : Addr) (cs : List Int) (n : Nat), vs = [.ref p] ∧ Pen H p l cs n ∧ n < 70000 ∧ Tabs T H ∧ ∀ H', Q (.bl true) H'
/-- what does not stand at one place -/
structure HrN (p l kn a1 a2 l1 : Addr) : Prop where
  n1 : a1 ≠ p
  n2 : a2 ≠ p
  n3 : l1 ≠ p
  n4 : kn ≠ p
  m1 : a1 ≠ kn
  m2 : a2 ≠ kn
  m3 : l1 ≠ kn
  m4 : l ≠ kn
/-- what stands while the law's turns go on -/
structure HrI (T : List (Addr × Str)) (H : Hp) (p l : Addr) (cs : List Int) (n : Nat) (a1 a2 t1 l1 t2 : Addr) : Prop where
  pen : Pen H p l cs n
  h1 : H a1 = some (.lst (atL t1 l1))
  h2 : H a2 = some (.lst (tgL t2))
  ht1 : H t1 = some (.tup [.int 1])
  hl1 : H l1 = some (.lst [])
  ht2 : H t2 = some (.tup [.str "a"])
  tb : Tabs T H
section
variable {T : List (Addr × Str)} {H H' : Hp} {p l : Addr} {cs : List Int} {n n' : Nat} {a1 a2 t1 l1 t2 kn CH : Addr}
theorem HrI.ext (h : HrI T H p l cs n a1 a2 t1 l1 t2) (s : ExtN H H') (t : Tabs T H') : HrI T H' p l cs n a1 a2 t1 l1 t2 :=
  ⟨h.pen.ext s, s _ _ h.h1 (fun ps z => by cases z), s _ _ h.h2 (fun ps z => by cases z), s _ _ h.ht1 (fun ps z => by cases z), s _ _ h.hl1 (fun ps z => by cases z), s _ _ h.ht2 (fun ps z => by cases z), t⟩
theorem HrI.same (h : HrI T H p l cs n a1 a2 t1 l1 t2) (s : Same H H') : HrI T H' p l cs n a1 a2 t1 l1 t2 := h.ext (.of s) (h.tb.ext s)
theorem HrI.bp (h : HrI T H p l cs n a1 a2 t1 l1 t2) (N : HrN p l kn a1 a2 l1) (b : But H H' p) (P : Pen H' p l cs n') : HrI T H' p l cs n' a1 a2 t1 l1 t2 := by
  obtain ⟨xs, hp⟩ := h.pen.at'
  exact ⟨P, b _ _ N.n1 h.h1, b _ _ N.n2 h.h2, b _ _ (ne_of h.ht1 hp (by intro z; cases z)) h.ht1, b _ _ N.n3 h.hl1, b _ _ (ne_of h.ht2 hp (by intro z; cases z)) h.ht2, tabs_but h.tb hp b⟩
theorem HrI.bk {xs : List V} (h : HrI T H p l cs n a1 a2 t1 l1 t2) (N : HrN p l kn a1 a2 l1) (hk : H kn = some (.lst xs)) (b : But H H' kn) : HrI T H' p l cs n a1 a2 t1 l1 t2 := by
  obtain ⟨i, g, w1, w2, w3⟩ := h.pen
  exact ⟨⟨i, g, b _ _ (Ne.symm N.n4) w1, b _ _ N.m4 w2, w3⟩, b _ _ N.m1 h.h1, b _ _ N.m2 h.h2, b _ _ (ne_of h.ht1 hk (by intro z; cases z)) h.ht1, b _ _ N.m3 h.hl1, b _ _ (ne_of h.ht2 hk (by intro z; cases z)) h.ht2, tabs_but h.tb hk b⟩
theorem HrI.mono (h : HrI T H p l cs n a1 a2 t1 l1 t2) (e : n ≤ n') : HrI T H p l cs n' a1 a2 t1 l1 t2 := { h with pen := h.pen.mono e }
end
/-- a hurt link that was made, with what it was made of -/
structure KnR where
  T : Addr
  o : Addr
  P : Addr
  k : Int
  z : Str
def KnOk (H : Hp) (CH : Addr) (r : KnR) : Prop := H r.T = some (.tup [.ref r.o, .ref r.P]) ∧ H r.P = some (.tup [.int r.k, .str r.z]) ∧ HuAt H r.o CH r.k r.z ∧ r.k ∈ okI ∧ r.z ∈ okZ
def KnAt (H : Hp) (CH kn : Addr) (L : List KnR) : Prop := H kn = some (.lst (L.map fun r => V.ref r.T)) ∧ ∀ r ∈ L, KnOk H CH r
theorem KnOk.ext {H H' : Hp} {CH : Addr} {r : KnR} (h : KnOk H CH r) (s : ExtN H H') : KnOk H' CH r := ⟨s _ _ h.1 (fun ps z => by cases z), s _ _ h.2.1 (fun ps z => by cases z), h.2.2.1.ext s, h.2.2.2⟩
theorem KnAt.ext {H H' : Hp} {CH kn : Addr} {L : List KnR} (h : KnAt H CH kn L) (s : ExtN H H') : KnAt H' CH kn L := ⟨s _ _ h.1 (fun ps z => by cases z), fun r hr => (h.2 r hr).ext s⟩
theorem HuAt.butq {H H' : Hp} {o CH q : Addr} {k : Int} {z : Str} {xs : List V} (h : HuAt H o CH k z) (hq : H q = some (.lst xs)) (b : But H H' q) : HuAt H' o CH k z := by
  obtain ⟨dx, h1, h2⟩ := h
  exact ⟨dx, b _ _ (ne_of h1 hq (by intro z; cases z)) h1, h2⟩
theorem KnOk.butq {H H' : Hp} {CH q : Addr} {r : KnR} {xs : List V} (h : KnOk H CH r) (hq : H q = some (.lst xs)) (b : But H H' q) : KnOk H' CH r := ⟨b _ _ (ne_of h.1 hq (by intro z; cases z)) h.1, b _ _ (ne_of h.2.1 hq (by intro z; cases z)) h.2.1, h.2.2.1.butq hq b, h.2.2.2⟩
abbrev stH (p a1 a2 kn : Addr) (o4 o5 o6 o7 o8 o9 : Option V) : L2.St := [some (.ref p), some (.ref a1), some (.ref a2), some (.ref kn), o4, o5, o6, o7, o8, o9, none, none]
section
variable {P : Program} {w : World} {K : PySem.W.Frag} {mg : Str → Option Value} {base : Heap}
theorem ok_hr {f c Ph Pb CI CJ CE CH fHi : Addr} {oc kV doc pm ct : Value} {od an : Option Addr} {osl : Array (Option Value)} (lk : K.lookup f = some ⟨oc, od, .func (PySem.W.fnOf "_law_hurt_right" "_law_hurt_right" (defArgs sHr) (defBody sHr) (defScope sHr) .none kV doc pm an (.ref c) ct), osl⟩)
    (hcd : PySem.W.codeIn K (.ref c) "_law_hurt_right" = true) (T : HrT P w K mg base CI CJ CE CH fHi) (TB : TabB base mg c Ph) (hne : Ph ≠ Pb) :
    FnG P w K mg base CX0 9 f (PySem.W.fnOf "_law_hurt_right" "_law_hurt_right" (defArgs sHr) (defBody sHr) (defScope sHr) .none kV doc pm an (.ref c) ct) ["_law_pen_here"] (spHr (tab2 Ph Pb)) := by
  obtain ⟨g, fdg, mh, Fh, bh⟩ := T.he
  obtain ⟨och, odh, kVh, doch, pmh, anh, cdh, cth, oslh, rfl, lkh, hch⟩ := Fh.ex
  obtain ⟨fP, fdP, mP, kP, bP, GP⟩ := T.pick
  obtain ⟨fL, fdL, mL, kL, bL, GL⟩ := T.lin
  obtain ⟨fdH, bH, GH⟩ := T.hO
  refine fun_gC lk hcd scHr (fun vs H Q E h => ?_) (fun A outer s H vs Q E hg hr h => ?_)
  · obtain ⟨p, l, cs, n, rfl, _⟩ := h
    rfl
  obtain ⟨p, l, cs, n, rfl, hP, hn, hT, k⟩ := h
  have hu := hu_of hr
  have hr1 := hr.mono (show 1 ≤ 8 by decide)
  have hr2 := hr.mono (show 2 ≤ 8 by decide)
  have hr4 := hr.mono (show 4 ≤ 8 by decide)
  have huT : ∀ p ∈ tab2 Ph Pb, p.1 = Ph → p.2 = qHr := fun p hp e => by
    rcases List.mem_cons.mp hp with rfl | hp
    · rfl
    · rw [List.mem_singleton.mp hp] at e
      exact absurd e.symm hne
  have mH := T.mH
  have EH : ∀ X : Cx, X.prog = P → X.w = w → X.K = K → X.mg = mg → X.base = base → Room 2 X.A → ∀ C, C = CH → EqC X C (spHuQ K CH) := fun X h1 h2 h3 h4 h5 hr C e => by
    subst h1 h2 h3 h4 h5 e
    exact T.eqH.eqC hr
  have SH : ∀ X : Cx, X.prog = P → X.w = w → X.K = K → X.mg = mg → X.base = base → Room 4 X.A → ∀ C, C = CH → StrC X C "__str__" (spHuS CH) := fun X h1 h2 h3 h4 h5 hr C e => by
    subst h1 h2 h3 h4 h5 e
    obtain ⟨g, fd, h1, h2, h3, h4⟩ := T.strH
    exact ⟨g, fd, 1, h1, h2, h3, hr, h4⟩
  have HG := heard_gives (X := (cxOf CX0 P w K mg base nHr "_law_hurt_right" (defScope sHr) f (.ref c) A outer s H E).nox) (g := g) (cdg := cdh) (q := qHr) T.ht
  refine ⟨_, pss_cons (ps_set (i := 1) scHr.nd rfl (Or.inl rfl) (pe_lst (pa_cons pe_int (pa_cons pe_int (pa_cons pe_int (pa_cons pe_int (pa_cons (pe_un un_neg pe_int) (pa_cons pe_bl (pa_cons pe_bl (pa_cons pe_non (pa_cons pe_str (pa_cons (pe_tup (pa_cons pe_int pa_nil)) (pa_cons pe_int (pa_cons pe_int (pa_cons (pe_lst pa_nil) (pa_cons (pe_op op_pow pe_int pe_int) pa_nil))))))))))))))))
    (pss_cons (ps_set (i := 2) scHr.nd rfl (Or.inl rfl) (pe_lst (pa_cons pe_str (pa_cons pe_str (pa_cons pe_str (pa_cons pe_str (pa_cons pe_str (pa_cons pe_str (pa_cons pe_str (pa_cons pe_str (pa_cons pe_non (pa_cons pe_int (pa_cons (pe_tup (pa_cons pe_str pa_nil)) (pa_cons pe_str (pa_cons pe_str (pa_cons pe_bl pa_nil))))))))))))))))
    (pss_cut (ps_set (i := 3) scHr.nd rfl (Or.inl rfl) (pe_lst pa_nil))
    (pss_cut (ps_for PassesOwn.never rfl (pi_range1 rfl T.range (pa_cons pe_int pa_nil)) (pg_name (i := 4) scHr.nd rfl (Or.inl rfl))
      (pss_cut (ps_asg (pe_tup (pa_cons (pe_call GP hr2 rfl mP kP bP .nil pass0 (pa_cons (pv 0) (pa_cons (pv 1) pa_nil))) (pa_cons (pe_call GP hr2 rfl mP kP bP .nil pass0 (pa_cons (pv 0) (pa_cons (pv 2) pa_nil))) pa_nil))) (pg_tup rfl (pgs_cons (pg_name (i := 8) scHr.nd rfl (Or.inr rfl)) (pgs_cons (pg_name (i := 9) scHr.nd rfl (Or.inr rfl)) pgs_nil))))
      (pss_cut (ps_set (i := 5) scHr.nd rfl (Or.inl rfl) (pe_ifExp (pt_val (pe_call GL hr1 rfl mL kL bL .nil pass0 (pa_cons (pv 9) pa_nil))) pe_non pe_str))
      (pss_cut (ps_if (PW.pt (pw_or (pt_not (pt_val (pe_callB call_isi (by rfl) T.isi (by decide +kernel) (pa_cons (pv 8) (pa_cons (pe_bltn (by rfl) T.int (by decide +kernel) (v := .ty "int") rfl) pa_nil)))))
          (pw_or (pt_val (pe_callB call_isi (by rfl) T.isi (by decide +kernel) (pa_cons (pv 8) (pa_cons (pe_bltn (by rfl) T.bool (by decide +kernel) (v := .ty "bool") rfl) pa_nil)))) (pw_or1 (pt_not (pt_chain op_le op_le pe_int (pv 8) pe_int)))))) (pss_one (ps_set (i := 5) scHr.nd rfl (Or.inl rfl) pe_str)) pss_nil)
      (pss_cut (ps_if (pt_cmpR op_ne (pe_lamcallG (t := teHu K CI CH) (T := tab2 Ph Pb) (Ng := nHea) (k := 4) (c := c) (P := Ph) rfl mh Fh.kp lkh hch bh scHea rfl (Or.inl rfl) HG TB rfl List.mem_cons_self huT hg (hr.mono (by decide)) (lamS_by (sc := defScope sHr) (by decide +kernel)) rfl (fun _ _ _ _ _ => rfl)
            (fun B st s1 H1 E f' c' hgB hr' => pe_makeS0 T.mkH T.hK hr' rfl mH (passes_call (takes_of rfl rfl rfl rfl) fun _ _ _ _ h => h) (pk_cons (pv 9) (pk_cons (pv 8) pk_nil)))) (pv 5) (nomark _)) (pss_one (ps_ret pe_bl)) pss_nil)
      (pss_one (ps_if (pt_cmpR op_isN (pv 5) pe_non (nomark _))
        (pss_cons (ps_set (i := 6) scHr.nd rfl (Or.inr rfl) (pe_make T.mkH GH hr4 rfl mH bH .nil (passNo rfl rfl) (pa_cons (pv 8) (pa_cons (pv 9) pa_nil))))
        (pss_cons (ps_if (pt_cmpR op_ne (pe_callB (ShN.call_shN hg hr.units) (by rfl) T.repr (by decide +kernel) (pa_cons (pe_lst (pa_cons (pe_propS (S := fun C => C = CH) (spP := fun _ => spHuL CH) (pv 6) (fun C e => by rw [e]; exact T.link) hr2) (pa_cons (pe_fld (pv 6) rfl) (pa_cons (pe_callTy (call_strOwn (SH _ rfl rfl rfl rfl rfl hr4)) (by rfl) T.str (by decide +kernel) (pa_cons (pv 6) pa_nil)) pa_nil)))) pa_nil))
            (pe_callB (ShN.call_shN hg hr.units) (by rfl) T.repr (by decide +kernel) (pa_cons (pe_lst (pa_cons (pv 8) (pa_cons (pv 9) (pa_cons (pe_op op_add_str (pe_op op_add_str (pe_op op_add_str pe_str (pe_callTy call_str_int (by rfl) T.str (by decide +kernel) (pa_cons (pv 8) pa_nil))) pe_str) (pv 9)) pa_nil)))) pa_nil)) (nomark _)) (pss_one (ps_ret pe_bl)) pss_nil)
        (pss_one (ps_expr (pe_bm PySem.F.plainAttrs_list PySem.F.slot_list_append PySem.F.type_list_append mt_append (pv 3) (pa_cons (pe_tup (pa_cons (pv 6) (pa_cons (pe_tup (pa_cons (pv 8) (pa_cons (pv 9) pa_nil))) pa_nil))) pa_nil)))))) pss_nil)))))))
    (pss_cut (ps_for PassesOwn.never rfl (pi_list (pv 3)) (pg_tup rfl (pgs_cons (pg_name (i := 6) scHr.nd rfl (Or.inr rfl)) (pgs_cons (pg_name (i := 7) scHr.nd rfl (Or.inr rfl)) pgs_nil)))
      (pss_cons (ps_if (pt_cmpR (op_neNil hr.units) (pe_lc (te := tC (.int 1)) (tt := ttKn K CH) (own := [("_law_other", 10), ("_law_more", 11)]) (g := gTup K 2 (gCons (gName 10) (gCons (gName 11) gNil))) rfl scHr.nd (pi_list (pv 3)) (blkOk_by (N := nHr) (sc := defScope sHr) (by decide +kernel)) (fun _ _ _ _ _ => pg_tup rfl (pgs_cons (pg_name (i := 10) scHr.nd rfl (Or.inl rfl)) (pgs_cons (pg_name (i := 11) scHr.nd rfl (Or.inl rfl)) pgs_nil)))
            (fun _ _ _ _ _ => pts_one (PW.pt (pw_or (pt_cmpR op_ne (pe_cmpR (op_ownE (.inl rfl) (S := fun C => C = CH) (spE := fun _ => spHuQ K CH) (EH _ rfl rfl rfl rfl rfl hr2)) (pv 6) (pv 10) (nomark _)) (pe_cmpR (op_eqD hr.units) (pv 7) (pv 11) (nomark _)) (nomark _))
              (pw_or1 (pt_cmpR op_eq (pe_cmpR (op_ownE (.inr rfl) (S := fun C => C = CH) (spE := fun _ => spHuQ K CH) (EH _ rfl rfl rfl rfl rfl hr2)) (pv 6) (pv 10) (nomark _)) (pe_cmpR (op_eqD hr.units) (pv 7) (pv 11) (nomark _)) (nomark _)))))) (fun _ _ _ _ _ => pe_int)) (pe_lst pa_nil) (nomark _)) (pss_one (ps_ret pe_bl)) pss_nil)
      (pss_one (ps_if (PW.pt (pw_or (pt_cmpR (op_ownE (.inl rfl) (S := fun C => C = CH) (spE := fun _ => spHuQ K CH) (EH _ rfl rfl rfl rfl rfl hr2)) (pv 6) (pv 7) (nomark _)) (pw_or (pt_cmpR (op_ownE (.inl rfl) (S := fun C => C = CH) (spE := fun _ => spHuQ K CH) (EH _ rfl rfl rfl rfl rfl hr2)) (pv 6) (pe_callTy (call_strOwn (SH _ rfl rfl rfl rfl rfl hr4)) (by rfl) T.str (by decide +kernel) (pa_cons (pv 6) pa_nil)) (nomark _))
          (pw_or1 (pt_cmpR (op_ownE (.inl rfl) (S := fun C => C = CH) (spE := fun _ => spHuQ K CH) (EH _ rfl rfl rfl rfl rfl hr2)) (pv 6) pe_non (nomark _)))))) (pss_one (ps_ret pe_bl)) pss_nil))))
    (pss_one (ps_ret pe_bl)))))), ?_⟩
  refine ⟨1, rfl, by show 1 ≤ sizeLine; decide, fun t1 ht1 => ⟨by show 0 ≤ sizeLine; decide, fun l1 hl1 => ⟨10, 50, rfl, rfl, ⟨by decide, by decide, by decide⟩, by show 14 ≤ sizeLine; decide, fun a1 ha1 => ⟨by show 1 ≤ sizeLine; decide, fun t2 ht2 => ⟨by show 14 ≤ sizeLine; decide, fun a2 ha2 => ?_⟩⟩⟩⟩⟩
  refine ⟨fun σ H' => ∃ a1 a2 t1 l1 t2 kn, σ = stH p a1 a2 kn none none none none none none ∧ HrN p l kn a1 a2 l1 ∧ HrI (tab2 Ph Pb) H' p l cs n a1 a2 t1 l1 t2 ∧ H' kn = some (.lst []), ?_, ?_⟩
  · refine ⟨by show 0 ≤ sizeLine; decide, fun kn hkn => ?_⟩
    have sA := same_at (o := .tup [V.int 1]) ht1
    have sB := same_at (o := .lst []) hl1
    have sC := same_at (o := .lst (atL t1 l1)) ha1
    have sD := same_at (o := .tup [V.str "a"]) ht2
    have sE := same_at (o := .lst (tgL t2)) ha2
    have sF := same_at (o := .lst []) hkn
    have f1 := sA.free hl1
    have f2 := (sA.trans sB).free ha1
    have f3 := (sA.trans (sB.trans sC)).free ht2
    have f4 := (sA.trans (sB.trans (sC.trans sD))).free ha2
    have f5 := (sA.trans (sB.trans (sC.trans (sD.trans sE)))).free hkn
    have lk_ : ∀ {x : Addr}, H x = none → l ≠ x := fun {x} e z => by
      obtain ⟨_, _, _, w2, _⟩ := hP
      rw [z, e] at w2
      cases w2
    have s0 := sA.trans (sB.trans (sC.trans (sD.trans (sE.trans sF))))
    refine ⟨a1, a2, t1, l1, t2, kn, rfl, ⟨nep hP f2, nep hP f4, nep hP f1, nep hP f5, ?_, ?_, ?_, lk_ f5⟩, ⟨hP.same s0, ?_, ?_, ?_, ?_, ?_, hT.ext s0⟩, upd_same⟩
    · exact ne_of_none (sE _ _ (sD _ _ upd_same)) hkn
    · exact ne_of_none upd_same hkn
    · exact ne_of_none (sE _ _ (sD _ _ (sC _ _ upd_same))) hkn
    · exact sF _ _ (sE _ _ (sD _ _ upd_same))
    · exact sF _ _ upd_same
    · exact sF _ _ (sE _ _ (sD _ _ (sC _ _ (sB _ _ upd_same))))
    · exact sF _ _ (sE _ _ (sD _ _ (sC _ _ upd_same)))
    · exact sF _ _ (sE _ _ upd_same)
  rintro σ H1 ⟨a1, a2, t1, l1, t2, kn, rfl, N, I1, k1⟩
  clear hP hT
  refine ⟨fun σ H' => (∃ o4 o5 o6 o8 o9, σ = stH p a1 a2 kn o4 o5 o6 none o8 o9) ∧ HrI (tab2 Ph Pb) H' p l cs (n + 20) a1 a2 t1 l1 t2 ∧ ∃ L, KnAt H' CH kn L ∧ L.length ≤ 10, ?_, ?_⟩
  · refine ⟨10, rfl, by decide, by decide, for_range (n := 10) (fun i σ H' => (∃ o4 o5 o6 o8 o9, σ = stH p a1 a2 kn o4 o5 o6 none o8 o9) ∧ HrI (tab2 Ph Pb) H' p l cs (n + 2 * i) a1 a2 t1 l1 t2 ∧ ∃ L, KnAt H' CH kn L ∧ L.length ≤ i) ⟨⟨_, _, _, _, _, rfl⟩, I1, [], ⟨k1, fun r hr => by cases hr⟩, Nat.le_refl _⟩ ?_ ?_⟩
    · rintro i σ H2 hi ⟨⟨o4, o5, o6, o8, o9, rfl⟩, I2, L, hL, hLl⟩
      -- what is drawn
      refine ⟨fun σ H' => ∃ x y b1 b2, σ = stH p a1 a2 kn (some (.int (0 + (i : Nat)))) o5 o6 none (some x) (some y) ∧ HrI (tab2 Ph Pb) H' p l cs (n + 2 * (i + 1)) a1 a2 t1 l1 t2 ∧ KnAt H' CH kn L ∧ AtV K H' x b1 ∧ TgV K H' y b2, ?_, ?_⟩
      · refine ⟨_, rfl, _, rfl, p, l, a1, cs, _, _, rfl, I2.pen, I2.h1, N.n1, by show 0 < 14; decide, by show 14 < 1000; decide, by omega, fun j1 x H3 hx1 P3 b3 => ?_⟩
        have I3 := I2.bp N b3 P3
        refine ⟨_, rfl, _, rfl, p, l, a2, cs, _, _, rfl, I3.pen, I3.h2, N.n2, by show 0 < 14; decide, by show 14 < 1000; decide, by omega, fun j2 y H4 hy1 P4 b4 => ?_⟩
        have I4 := I3.bp N b4 P4
        refine ⟨by show 2 ≤ sizeLine; decide, fun tp htp => ?_⟩
        have s5 := same_at (o := .tup [x, y]) htp
        have I5 := (I4.mono (show n + 2 * i + 1 + 1 ≤ n + 2 * (i + 1) by omega)).same s5
        obtain ⟨ps2, hp2⟩ := I2.pen.at'
        obtain ⟨ps3, hp3⟩ := I3.pen.at'
        obtain ⟨b1, hb1⟩ := atL_is (K := K) (List.mem_of_getElem? hx1) I5.ht1 I5.hl1
        obtain ⟨b2, hb2⟩ := tgL_is (K := K) (List.mem_of_getElem? hy1) I5.ht2
        refine ⟨tp, _, rfl, SqT.of upd_same, rfl, _, _, rfl, _, _, rfl, rfl, x, y, b1, b2, rfl, I5, ⟨s5 _ _ (b4 _ _ N.n4 (b3 _ _ N.n4 hL.1)), fun r hr' => ?_⟩, hb1, hb2⟩
        exact ((hL.2 r hr').butq hp2 b3 |>.butq hp3 b4).ext (.of s5)
      rintro σ H3 ⟨x, y, b1, b2, rfl, I3, hL3, hx, hy⟩
      clear hL I2
      -- due
      refine ⟨fun σ H' => σ = stH p a1 a2 kn (some (.int (0 + (i : Nat)))) (some (if b2 then V.non else .str "hurt name")) o6 none (some x) (some y) ∧ Same H3 H', ?_, ?_⟩
      · refine ⟨_, rfl, y, rfl, ?_⟩
        rcases hy.law with ⟨z, rfl, hz, e⟩ | ⟨t, ty, e, rfl⟩
        · refine .inl ⟨z, rfl, hz, fun H' s => ⟨_, rfl, ?_⟩⟩
          rw [e]
          cases b2 with
          | true => exact iteT ⟨rfl, s⟩
          | false => exact iteF ⟨rfl, s⟩
        · exact .inr ⟨t, ty, e, ⟨_, rfl, iteF ⟨rfl, Same.refl _⟩⟩⟩
      rintro σ H4 ⟨rfl, s4⟩
      have I4 := I3.same s4
      have hL4 := hL3.ext (.of s4)
      have hx4 := hx.ext (.of s4)
      have hy4 := hy.ext (.of s4)
      clear I3 hL3 hx hy s4
      refine ⟨fun σ H' => σ = stH p a1 a2 kn (some (.int (0 + (i : Nat)))) (some (toldH (rHu b1 b2))) o6 none (some x) (some y) ∧ H' = H4, ?_, ?_⟩
      · have eN : ("hurt name" : Str) = ("hurt " : Str) ++ ("name" : Str) := by decide +kernel
        have eL : ("hurt link" : Str) = ("hurt " : Str) ++ ("link" : Str) := by decide +kernel
        have good : some (if b2 then V.non else .str "hurt name") = some (toldH (rHu true b2)) := by
          cases b2 with
          | true => rfl
          | false => rw [eN]; rfl
        have bad : some (V.str "hurt link") = some (toldH (rHu false b2)) := by rw [eL]; rfl
        cases hx4 with
        | good hi' =>
          rename_i i1
          obtain ⟨g1, g2⟩ := okI_le _ hi'
          refine ⟨_, rfl, _, _, .type "int", .type "int", true, rfl, .ty _, .base (.int _), kit_ty (by decide +kernel), _, rfl, iteF ?_⟩
          refine ⟨_, rfl, _, _, .type "int", .type "bool", false, rfl, .ty _, .base (.int _), kit_ty (by decide +kernel), _, rfl, iteF ?_⟩
          refine ⟨_, rfl, _, _, rfl, rfl, _, rfl, ?_⟩
          rw [decide_eq_true g1]
          refine iteT ⟨_, _, rfl, rfl, _, rfl, ?_⟩
          rw [decide_eq_true g2]
          exact iteF ⟨by rw [good], rfl⟩
        | bad hb =>
          rcases hb with ⟨i1, rfl, e⟩ | ⟨t, m, c', ty, em, ec, e, _⟩
          · refine ⟨_, rfl, _, _, .type "int", .type "int", true, rfl, .ty _, .base (.int _), kit_ty (by decide +kernel), _, rfl, iteF ?_⟩
            refine ⟨_, rfl, _, _, .type "int", .type "bool", false, rfl, .ty _, .base (.int _), kit_ty (by decide +kernel), _, rfl, iteF ?_⟩
            refine ⟨_, rfl, _, _, rfl, rfl, _, rfl, ?_⟩
            by_cases g1 : (0 : Int) ≤ i1
            · rw [decide_eq_true g1] at e ⊢
              refine iteT ⟨_, _, rfl, rfl, _, rfl, ?_⟩
              rw [Bool.true_and] at e
              rw [← e]
              exact iteT ⟨by rw [← bad]; rfl, rfl⟩
            · rw [decide_eq_false g1]
              exact iteF ⟨_, rfl, iteT ⟨by rw [← bad]; rfl, rfl⟩⟩
          · refine ⟨_, rfl, _, _, .type t, .type "int", m, rfl, .ty _, ty, kit_ty em, _, rfl, ?_⟩
            cases m with
            | false => exact iteT ⟨by rw [← bad]; rfl, rfl⟩
            | true =>
              refine iteF ⟨_, rfl, _, _, .type t, .type "bool", c', rfl, .ty _, ty, kit_ty ec, _, rfl, ?_⟩
              cases c' with
              | true => exact iteT ⟨by rw [← bad]; rfl, rfl⟩
              | false => cases e
      rintro σ H5 ⟨rfl, rfl⟩
      have scv : scal (toldH (rHu b1 b2)) (toldH (rHu b1 b2)) = true := by cases b1 <;> cases b2 <;> rfl
      -- heard
      refine ⟨fun σ H' => σ = stH p a1 a2 kn (some (.int (0 + (i : Nat)))) (some (toldH (rHu b1 b2))) o6 none (some x) (some y) ∧ ExtN H5 H' ∧ Tabs (tab2 Ph Pb) H', ?_, ?_⟩
      · refine hr_rd (r := rHu b1 b2) I4.tb (fun b z e => ?_) (fun H6 x6 T6 Qn E kj ki kn' => ?_) fun H6 x6 T6 => ?_
        · cases b1 <;> cases b2 <;> cases e <;> decide +kernel
        · refine ⟨_, rfl, _, rfl, rfl, fun o dx ho hdx hne => ⟨rfl, ?_⟩⟩
          have sC : Same H6 (upd (upd H6 dx (.own o)) o (.ins CH dx [])) := fun b u e => by
            rw [upd_ne (ne_of_none e ho), upd_ne (ne_of_none e hdx)]
            exact e
          refine ⟨o, dx, x, y, b1, b2, rfl, upd_same, (hx4.ext (x6.trans (.of sC))).is, (hy4.ext (x6.trans (.of sC))).nm, fun e' e H' q => ?_, fun e1 e2 e H' q => ?_, fun e1 e2 H' w1 w2 => ⟨rfl, ?_⟩⟩
          · exact ki "link" (by rw [e']; rfl) e H' (errH_of q sC)
          · exact ki "name" (by rw [e1, e2]; rfl) e H' (errH_of q sC)
          · exact kn' (by rw [e1, e2]; rfl) _ _ fun b u e => w2 _ _ (ne_of_none e ho) (sC _ _ e)
        · refine ⟨_, rfl, scv, _, rfl, ?_⟩
          rw [decide_eq_true rfl]
          exact iteF ⟨rfl, x6, T6⟩
      rintro σ H6 ⟨rfl, x6, T6⟩
      have I6 := I4.ext x6 T6
      have hL6 := hL4.ext x6
      have hx6 := hx4.ext x6
      have hy6 := hy4.ext x6
      clear I4 hL4 hx4 hy4 x6 T6
      -- made
      refine ⟨_, rfl, rfl, _, rfl, ?_⟩
      by_cases hb : b1 = true ∧ b2 = true
      case neg =>
        rw [decide_eq_false (show ¬ toldH (rHu b1 b2) = V.non from fun z => by cases b1 <;> cases b2 <;> first | exact hb ⟨rfl, rfl⟩ | cases z)]
        exact iteF ⟨⟨_, _, _, _, _, rfl⟩, I6, L, hL6, by omega⟩
      obtain ⟨rfl, rfl⟩ := hb
      rw [decide_eq_true (show toldH (rHu true true) = V.non from rfl)]
      refine iteT ?_
      cases hx6 with
      | good hi' =>
      rename_i i1
      cases hy6 with
      | good hz' =>
      rename_i z
      obtain ⟨g1, g2⟩ := okI_le _ hi'
      have hzl := (okZ_all _ hz').2.2
      refine ⟨_, rfl, _, rfl, fun o dx ho hdx hne => ?_⟩
      have sC : Same H6 (upd (upd H6 dx (.own o)) o (.ins CH dx [])) := fun b u e => by
        rw [upd_ne (ne_of_none e ho), upd_ne (ne_of_none e hdx)]
        exact e
      refine ⟨o, dx, _, _, true, true, rfl, upd_same, (AtV.good hi').is, (TgV.good hz').nm, (fun e => by cases e), (fun _ e => by cases e), fun _ _ H7 w1 w2 => ⟨rfl, ?_⟩⟩
      have s67 : Same H6 H7 := fun b u e => w2 _ _ (ne_of_none e ho) (sC _ _ e)
      have hu7 : HuAt H7 o CH i1 z := ⟨dx, w1, g1, g2, by omega⟩
      have I7 := I6.same s67
      have hL7 := hL6.ext (.of s67)
      clear I6 hL6
      refine ⟨_, rfl, o, CH, dx, _, rfl, w1, rfl, o, i1, z, rfl, hu7, ?_⟩
      refine ⟨_, rfl, o, CH, dx, _, _, rfl, w1, T.cl, T.nN, huF_name _ _, ?_⟩
      refine ⟨_, rfl, o, CH, dx, _, rfl, w1, rfl, o, i1, z, rfl, hu7, _, rfl, by show 3 ≤ sizeLine; decide, fun v1 hv1 => ?_⟩
      have s8 := same_at (o := .lst [V.int i1, .str z, .str (huStr i1 z)]) hv1
      refine ⟨_, .list [.int i1, .str z, .str (huStr i1 z)], rfl, .lst (SqL.of upd_same) (.cons (.int _) (.cons (.str _) (.cons (.str _) .nil))), hu_fit _ hi' _ hz', ?_⟩
      have lk : (toString i1 : Str).length ≤ 1 := by
        have h : (okI.all fun k => decide ((toString k : Str).length ≤ 1)) = true := by decide +kernel
        exact of_decide_eq_true (List.all_eq_true.mp h _ hi')
      have e5 : (("link " : Str)).length ≤ 5 := by decide +kernel
      have e1' : ((" " : Str)).length ≤ 1 := by decide +kernel
      have e6 : (("link " : Str) ++ (toString i1 : Str)).length ≤ 6 := by rw [strLen]; exact Nat.add_le_add e5 lk
      have e7 : ((("link " : Str) ++ (toString i1 : Str)) ++ (" " : Str)).length ≤ 7 := by rw [strLen]; exact Nat.add_le_add e6 e1'
      refine ⟨_, rfl, _, rfl, _, rfl, i1, rfl, Nat.lt_of_le_of_lt (Nat.log2_le_self _) (by omega), _, _, rfl, rfl, Nat.le_trans (Nat.add_le_add e5 lk) (by decide), _, _, rfl, rfl, Nat.le_trans (Nat.add_le_add e6 e1') (by decide), _, rfl, _, _, rfl, rfl, Nat.le_trans (Nat.add_le_add e7 hzl) (by decide), by show 3 ≤ sizeLine; decide, fun v2 hv2 => ?_⟩
      rw [hu_txt]
      have s9 := same_at (o := .lst [V.int i1, .str z, .str (huStr i1 z)]) hv2
      refine ⟨_, .list [.int i1, .str z, .str (huStr i1 z)], rfl, .lst (SqL.of upd_same) (.cons (.int _) (.cons (.str _) (.cons (.str _) .nil))), hu_fit _ hi' _ hz', rfl, false, by rw [decide_eq_true rfl]; rfl, iteF ?_⟩
      have s79 := s8.trans s9
      have I9 := I7.same s79
      have hL9 := hL7.ext (.of s79)
      have hu9 := hu7.same s79
      obtain ⟨H9, e9⟩ : ∃ H9, H9 = upd (upd H7 v1 (.lst [V.int i1, .str z, .str (huStr i1 z)])) v2 (.lst [V.int i1, .str z, .str (huStr i1 z)]) := ⟨_, rfl⟩
      rw [← e9] at I9 hL9 hu9 ⊢
      clear I7 hL7 hu7 s8 s9 s79
      -- kept
      refine ⟨_, rfl, .inl ⟨rfl, _, SqL.of hL9.1⟩, _, rfl, _, rfl, _, rfl, by show 2 ≤ sizeLine; decide, fun Pp hPp => ⟨by show 2 ≤ sizeLine; decide, fun Tt hTt => ?_⟩⟩
      have sP := same_at (o := .tup [V.int i1, .str z]) hPp
      have sT := same_at (o := .tup [V.ref o, .ref Pp]) hTt
      have sPT := sP.trans sT
      have I10 := I9.same sPT
      have hL10 := hL9.ext (.of sPT)
      have hu10 := hu9.same sPT
      have hP10 := sT _ _ (upd_same (H := H9) (a := Pp) (o := .tup [V.int i1, .str z]))
      obtain ⟨H10, e10⟩ : ∃ H10, H10 = upd (upd H9 Pp (.tup [V.int i1, .str z])) Tt (.tup [V.ref o, .ref Pp]) := ⟨_, rfl⟩
      have hT10 : H10 Tt = some (.tup [V.ref o, .ref Pp]) := by rw [e10, upd_same]
      rw [← e10] at I10 hL10 hu10 hP10 ⊢
      refine ⟨kn, _, _, rfl, rfl, hL10.1, ?_, ?_⟩
      · rw [List.length_map]
        exact Nat.lt_of_le_of_lt hLl (Nat.lt_trans hi (by decide))
      have bk : But H10 (upd H10 kn (.lst (L.map (fun r => V.ref r.T) ++ [.ref Tt]))) kn := fun b u hb e => by rw [upd_ne hb]; exact e
      refine ⟨⟨_, _, _, _, _, rfl⟩, I10.bk N hL10.1 bk, L ++ [⟨Tt, o, Pp, i1, z⟩], ⟨?_, fun r hr' => ?_⟩, by rw [List.length_append]; exact Nat.succ_le_succ hLl⟩
      · rw [upd_same, List.map_append]
        rfl
      · rcases List.mem_append.mp hr' with hr' | hr'
        · exact (hL10.2 r hr').butq hL10.1 bk
        · obtain rfl := List.mem_singleton.mp hr'
          exact (show KnOk H10 CH ⟨Tt, o, Pp, i1, z⟩ from ⟨hT10, hP10, hu10, hi', hz'⟩).butq hL10.1 bk
    · rintro σ H' ⟨h1, h2, L, h3, h4⟩
      exact ⟨h1, h2.mono (by omega), L, h3, h4⟩
  rintro σ H2 ⟨⟨o4, o5, o6, o8, o9, rfl⟩, I2, L, hL, hLl⟩
  refine ⟨fun σ H' => True, ?_, fun σ H' _ => k H'⟩
  have at_ : ∀ {j : Nat} {x : V}, (L.map fun r => V.ref r.T)[j]? = some x → ∃ r ∈ L, x = .ref r.T := fun {j x} h => by
    rw [List.getElem?_map] at h
    cases e : L[j]? with
    | none => rw [e] at h; cases h
    | some r => rw [e] at h; exact ⟨r, List.mem_of_getElem? e, (Option.some.inj h).symm⟩
  refine ⟨_, rfl, kn, rfl, ⟨_, SqL.of hL.1⟩, for_list (xs := L.map fun r => V.ref r.T) (fun i σ H' => (∃ o6 o7, σ = stH p a1 a2 kn o4 o5 o6 o7 o8 o9) ∧ Same H2 H') ⟨⟨_, _, rfl⟩, Same.refl _⟩ (fun i σ H' _ h => SqL.of (h.2 _ _ hL.1)) ?_ (fun _ _ _ => True.intro)⟩
  rintro i x σ H3 hx ⟨⟨o6, o7, rfl⟩, s3⟩
  obtain ⟨r, hr', rfl⟩ := at_ hx
  have hL3 := hL.ext (.of s3)
  obtain ⟨k1', k2', ku, ki, kz⟩ := hL3.2 r hr'
  refine ⟨r.T, _, rfl, SqT.of k1', rfl, _, _, rfl, _, _, rfl, rfl, ?_⟩
  refine ⟨_, rfl, kn, rfl, ⟨_, SqL.of hL3.1⟩, fun D hD => ?_⟩
  refine lc_it (walk_list (K := K) (a := kn) (xs := L.map fun r => V.ref r.T)) (fun j H' => Same H3 H' ∧ H' D = some (.lst [])) ⟨same_at hD, upd_same⟩ (fun j H' _ h => SqL.of (h.1 _ _ hL3.1)) ?_ ?_
  · rintro j x Ho Ha hj ⟨sa, da⟩ ⟨rfl, hx2⟩
    obtain ⟨u, hu', rfl⟩ := at_ hx2
    obtain ⟨q1, q2, qu, qi, qz⟩ := (hL3.ext (.of sa)).2 u hu'
    have ku' := ku.same sa
    have kp' := sa _ _ k2'
    have e1 : ∀ b : Bool, (!decide (V.bl (ansOf .Eq b) = V.bl b)) = false := by decide
    have e2 : ∀ b : Bool, decide (V.bl (ansOf .NotEq b) = V.bl b) = false := by decide
    have tp : ∀ {a : Addr} {k : Int} {z : Str}, Ha a = some (.tup [.int k, .str z]) → Dp K Ha (.ref a) (.tuple [.int k, .str z]) := fun e => .tup (SqT.of e) (.cons (.int _) (.cons (.str _) .nil))
    refine ⟨u.T, _, rfl, SqT.of q1, rfl, _, _, rfl, _, _, rfl, rfl, rfl, ?_⟩
    refine ⟨_, rfl, _, rfl, huq_rd T.ic T.nfH ku' qu ⟨_, rfl, _, rfl, _, _, tp kp', tp q2, hu_sh _ ki _ kz, hu_sh _ qi _ qz, rfl, _, rfl, ?_⟩⟩
    rw [hu_eqv _ ki _ kz _ qi _ qz, e1]
    refine iteF ⟨_, rfl, _, rfl, huq_rd T.ic T.nfH ku' qu ⟨_, rfl, _, rfl, _, _, tp kp', tp q2, hu_sh _ ki _ kz, hu_sh _ qi _ qz, rfl, _, rfl, ?_⟩⟩
    rw [hu_eqv _ ki _ kz _ qi _ qz, e2]
    exact ⟨sa, da⟩
  rintro H4 ⟨s4, d4⟩
  refine ⟨by show 0 ≤ sizeLine; decide, fun e he => ?_⟩
  have s5 := same_at (o := .lst []) he
  have s45 := s4.trans s5
  refine ⟨D, e, [], rfl, rfl, s5 _ _ d4, upd_same, _, rfl, iteF ?_⟩
  have ku5 := ku.same s45
  obtain ⟨dx, w1, _⟩ := id ku5
  refine ⟨_, rfl, _, rfl, huo_rd ku5 (.base (.tup (s45 _ _ k2'))) T.nfT T.koT ⟨false, rfl, iteF ?_⟩⟩
  refine ⟨_, rfl, _, rfl, r.o, CH, dx, _, rfl, w1, rfl, r.o, r.k, r.z, rfl, ku5, _, rfl, huo_rd ku5 (.base (.str _)) T.nfS T.koS ⟨false, rfl, iteF ?_⟩⟩
  refine ⟨_, rfl, ?_⟩
  dsimp only [tC]
  exact huo_rd ku5 (.base .non) T.nfN T.koN ⟨false, rfl, iteF ⟨⟨_, _, rfl⟩, s3.trans s45⟩⟩
end
end Sj
namespace Sj
open PySem L2 Sup StK Own Shw Exg Grd KepE LamX
open NdefX (NF NScope ncx envF startF nscope_by)
open C8 (pss_cut tCut)
/-! k67: _law_wide -/
/-- [z for z in zs if test], zs texts in a list -/
theorem lc_strF {K : PySem.W.Frag} {a D v : Addr} {zs : List Str} {H1 : Hp} {σ : L2.St} {tt : TT} {Qd : Hp → Prop} {vs : List Nat} (f : Str → Bool) (ha : H1 a = some (.lst (strv zs))) (hD : H1 D = none) (h60 : zs.length ≤ 60)
    (hw : ∀ x, wipe ((wipe σ vs).set v (some x)) vs = wipe σ vs) (hv : ∀ x, ((wipe σ vs).set v (some x))[v]? = some (some x))
    (ht : ∀ z ∈ zs, ∀ H', Same H1 H' → ∀ R : Bool → Hp → Prop, (∀ H'', Same H' H'' → R (f z) H'') → tt ((wipe σ vs).set v (some (.str z))) H' R)
    (k : ∀ H', Same H1 H' → H' D = some (.lst (strv (zs.filter f))) → Qd H') :
    ∃ W : Nat → Nat → Hp → Prop, (∃ m, W 0 m (upd H1 D (.lst []))) ∧ ∀ i m H, W i m H →
      ((Itl K a).stop i H ∧ Qd H) ∨ ((Itl K a).go i H ∧ ∃ Nx : Hp → Prop, (∀ H', Nx H' → ∃ m', m' < m ∧ W (i + 1) m' H') ∧ ∀ x H', (Itl K a).yld i H x H' → gName v x (wipe σ vs) H' fun σ2 H2 => wipe σ2 vs = wipe σ vs ∧ tt σ2 H2 fun b H3 =>
        if b = true then tVar v σ2 H3 fun y H4 => ∃ acc, H4 D = some (.lst acc) ∧ acc.length < sizeLine ∧ Nx (upd H4 D (.lst (acc ++ [y]))) else Nx H3) := by
  have hl : (strv zs).length = zs.length := List.length_map _
  refine lc_it (walk_list (K := K) (a := a) (xs := strv zs)) (fun i H' => Same H1 H' ∧ H' D = some (.lst (strv ((zs.take i).filter f)))) ⟨same_at hD, upd_same⟩ (fun i H' _ p => SqL.of (p.1 _ _ ha)) ?_ ?_
  · rintro i x Ho Ha hi ⟨sa, da⟩ ⟨rfl, hx⟩
    rw [hl] at hi
    have ex : (strv zs)[i]? = some (.str zs[i]) := by show (zs.map V.str)[i]? = _; rw [List.getElem?_map, List.getElem?_eq_getElem hi]; rfl
    rw [ex] at hx
    obtain rfl := Option.some.inj hx
    have et : (zs.take (i + 1)).filter f = (zs.take i).filter f ++ if f zs[i] = true then [zs[i]] else [] := by
      rw [List.take_add_one, List.getElem?_eq_getElem hi, Option.toList_some, List.filter_append]
      by_cases e : f zs[i] = true
      · rw [if_pos e, List.filter_cons_of_pos e]; rfl
      · rw [if_neg e, List.filter_cons_of_neg e]; rfl
    refine ⟨hw _, ht _ (List.getElem_mem hi) _ sa _ fun H3 s3 => ?_⟩
    have da3 := s3 _ _ da
    have s13 := sa.trans s3
    by_cases e : f zs[i] = true
    · rw [if_pos e]
      refine ⟨_, hv _, _, da3, ?_, fun c o ec => ?_, ?_⟩
      · have h1 : ((zs.take i).filter f).length ≤ 60 := Nat.le_trans (List.length_filter_le _ _) (by rw [List.length_take]; omega)
        show (List.map _ _).length < _
        rw [List.length_map]
        exact Nat.lt_of_le_of_lt h1 (by decide)
      · rw [upd_ne (ne_of_none ec hD)]
        exact s13 _ _ ec
      · rw [upd_same, et, if_pos e]
        show _ = some (HO.lst (List.map _ _))
        rw [List.map_append]
        rfl
    · rw [if_neg e]
      refine ⟨s13, ?_⟩
      rw [et, if_neg e, List.append_nil]
      exact da3
  · rintro H ⟨s, d⟩
    rw [hl, List.take_length] at d
    exact k H s d
theorem kinds_drv {ks : Kinds} {ys : List LegR} {ds ls : List Str} (h : KindsOf ks ys ds ls) {z : Str} (hz : z ∈ ds) : ∃ r ∈ ys, r.z = z ∧ r.C = ks.drv := by
  obtain ⟨r1, r2, hp, e1, e2, c1, c2⟩ := h
  rw [← e1] at hz
  obtain ⟨r, hr, e⟩ := List.mem_map.mp hz
  exact ⟨r, hp.mem_iff.mpr (List.mem_append_left _ hr), e, c1 r hr⟩
theorem kinds_lis {ks : Kinds} {ys : List LegR} {ds ls : List Str} (h : KindsOf ks ys ds ls) {z : Str} (hz : z ∈ ls) : ∃ r ∈ ys, r.z = z ∧ r.C = ks.lis := by
  obtain ⟨r1, r2, hp, e1, e2, c1, c2⟩ := h
  rw [← e2] at hz
  obtain ⟨r, hr, e⟩ := List.mem_map.mp hz
  exact ⟨r, hp.mem_iff.mpr (List.mem_append_right _ hr), e, c2 r hr⟩
/-- another top, a leg of the other kind, a rail more or less -/
def DiffD (d e : BareD) : Prop := e.t ≠ d.t ∨ (∃ z, (z ∈ e.ds ∧ z ∈ d.ls) ∨ (z ∈ e.ls ∧ z ∈ d.ds)) ∨ e.g ≠ d.g ∨ e.r ≠ d.r
theorem diff_fr {ks : Kinds} {ys zs : List LegR} {d e : BareD} (ne : ks.drv ≠ ks.lis) (h : KindsOf ks ys d.ds d.ls) (h' : KindsOf ks zs e.ds e.ls) (nd : (names ys).Nodup) (u : DiffD d e) : eqFr ⟨zs, e.t, e.g, e.r⟩ ⟨ys, d.t, d.g, d.r⟩ = false := by
  rcases u with u | ⟨z, ⟨u1, u2⟩ | ⟨u1, u2⟩⟩ | u | u
  · exact eqFr_top u
  · obtain ⟨p, hp, ep, cp⟩ := kinds_drv h' u1
    obtain ⟨q, hq, eq, cq⟩ := kinds_lis h u2
    exact eqFr_legs (eqLegs_kind hp hq nd (by rw [eq, ep]) (by rw [cq, cp]; exact ne.symm))
  · obtain ⟨p, hp, ep, cp⟩ := kinds_lis h' u1
    obtain ⟨q, hq, eq, cq⟩ := kinds_drv h u2
    exact eqFr_legs (eqLegs_kind hp hq nd (by rw [eq, ep]) (by rw [cq, cp]; exact ne))
  · exact eqFr_g u
  · exact eqFr_r u
theorem put_top (t x : Int) (dl ll rl : Addr) : putK (rowsB t dl ll rl) (Sum.inr "top" : Key) (.int x) = rowsB x dl ll rl := by
  unfold rowsB putK
  simp +decide
theorem put_rai (t : Int) (dl ll rl x : Addr) : putK (rowsB t dl ll rl) (Sum.inr "rails" : Key) (.ref x) = rowsB t dl ll x := by
  unfold rowsB putK
  simp +decide
/-- a leg is of the other kind -/
def othD (d : BareD) (zs : List Str) (z0 : Str) : BareD :=
  let ds := zs.filter fun o => decide (o ∈ d.ds) != decide (o = z0)
  ⟨d.t, ds, zs.filter fun o => !decide (o ∈ ds), d.g, d.r⟩
theorem oth_ok {d : BareD} {zs : List Str} {z0 : Str} (ok : d.ok) (hp : zs.Perm (d.ds ++ d.ls)) (hs : PyProof.Rows.sortedS zs = true) (hz : z0 ∈ zs) : (othD d zs z0).ok ∧ DiffD d (othD d zs z0) := by
  have pw := OrdS.sorted_pw hs
  have memI : ∀ o ∈ zs, (decide (o ∈ zs.filter fun o => decide (o ∈ d.ds) != decide (o = z0))) = (decide (o ∈ d.ds) != decide (o = z0)) := fun o ho => by
    cases e : (decide (o ∈ d.ds) != decide (o = z0)) with
    | true => exact decide_eq_true (List.mem_filter.mpr ⟨ho, e⟩)
    | false => exact decide_eq_false fun h => by rw [(List.mem_filter.mp h).2] at e; cases e
  have els : (othD d zs z0).ls = zs.filter fun o => !(decide (o ∈ d.ds) != decide (o = z0)) := List.filter_congr fun o ho => by rw [memI o ho]
  have eds : (othD d zs z0).ds = zs.filter fun o => decide (o ∈ d.ds) != decide (o = z0) := rfl
  have pm : ((othD d zs z0).ds ++ (othD d zs z0).ls).Perm (d.ds ++ d.ls) := by
    rw [els, eds]
    exact (List.filter_append_perm _ _).trans hp
  refine ⟨⟨ok.t1, ok.t3, pm.nodup_iff.mpr ok.nd, fun z hz' => ok.po z (pm.mem_iff.mp hz'), ?_, ?_, ?_⟩, .inr (.inl ⟨z0, ?_⟩)⟩
  · rw [eds]; exact pw.sublist List.filter_sublist
  · rw [els]; exact pw.sublist List.filter_sublist
  · have := pm.length_eq
    rw [List.length_append, List.length_append] at this
    have := ok.le
    omega
  · by_cases h : z0 ∈ d.ds
    · refine .inr ⟨?_, h⟩
      rw [els]
      exact List.mem_filter.mpr ⟨hz, by rw [decide_eq_true h, decide_eq_true rfl]; rfl⟩
    · refine .inl ⟨?_, (List.mem_append.mp (hp.mem_iff.mp hz)).resolve_left h⟩
      rw [eds]
      exact List.mem_filter.mpr ⟨hz, by rw [decide_eq_false h, decide_eq_true rfl]; rfl⟩
/-- a rail more or less -/
theorem rai_eq (g r : Bool) : (["ground", "power"] : List Str).filter (fun o => decide (o ∈ railsZ g r) != decide (o = "ground")) = railsZ (!g) r ∧ (["ground", "power"] : List Str).filter (fun o => decide (o ∈ railsZ g r) != decide (o = "power")) = railsZ g (!r) := by
  cases g <;> cases r <;> decide +kernel
abbrev sWi : Stmt := top 67
abbrev nWi : List Str := ["_law_pen_here", "_law_bare_here", "_law_wide_here", "_law_tags_here", "_law_way", "_law_rail", "_law_tag", "_law_rails_so", "_law_one"]
theorem scWi : FnScope nWi ["_law_pen_here", "_law_bare_here"] (defScope sWi) := ⟨rfl, rfl, rfl, by decide +kernel, rfl, by decide +kernel, by decide +kernel⟩
structure WiT (P : Program) (w : World) (K : PySem.W.Frag) (mg : Str → Option Value) (base : Heap) : Prop where
  draw : Fi P w K mg base "_law_draw" 1 ["_law_pen_here", "_law_many"] spDraw
  pick : Fi P w K mg base "_law_pick" 2 ["_law_pen_here", "_law_some"] spPick
  dict : mg "dict" = none
  sorted : mg "sorted" = none
  int : mg "int" = none
def ttW1 (K : PySem.W.Frag) : TT := tTest (tOp rNe (tOp (rIn K false) (tVar 8) (tDGet (tVar 1) (tC (.str "drivers")))) (tOp rEq (tVar 8) (tVar 6)))
def ttW2 (K : PySem.W.Frag) : TT := tTest (tOp (rIn K true) (tVar 8) (tDGet (tVar 2) (tC (.str "drivers"))))
def ttW3 (K : PySem.W.Frag) : TT := tTest (tOp rNe (tOp (rIn K false) (tVar 8) (tVar 7)) (tOp rEq (tVar 8) (tVar 5)))
def spWi : Sp := fun vs H Q _ => ∃ (p l : Addr) (cs : List Int) (n : Nat) (b : Addr) (d : BareD), vs = [.ref p, .ref b] ∧ Pen H p l cs n ∧ BareAt H b d p ∧ d.ok ∧ n < 80000 ∧
  ∀ e d' H', d'.ok → DiffD d d' → H e = none → BareAt H' e d' p → Pen H' p l cs (n + 3) → But H H' p → Q (.ref e) H'
abbrev stWd (p b wd tl : Addr) (o4 o5 o6 o7 : Option V) : L2.St := [some (.ref p), some (.ref b), some (.ref wd), some (.ref tl), o4, o5, o6, o7, none]
section
variable {P : Program} {w : World} {K : PySem.W.Frag} {mg : Str → Option Value} {base : Heap}
theorem ok_wi {f : Addr} {fd : FuncData} (F : Fun K "_law_wide" "_law_wide" sWi f fd) (T : WiT P w K mg base) : FnOk P w K mg base CX0 3 f fd ["_law_pen_here", "_law_bare_here"] spWi := by
  obtain ⟨fD, fdD, mD, kD, bD, GD⟩ := T.draw
  obtain ⟨fP, fdP, mP, kP, bP, GP⟩ := T.pick
  refine F.ok scWi (fun vs H Q E h => ?_) (fun cdv A outer s H vs Q E hr h => ?_)
  · obtain ⟨p, l, cs, n, b, d, rfl, _⟩ := h
    rfl
  obtain ⟨p, l, cs, n, b, d, rfl, hP, hB, ok, hn, k⟩ := h
  have hu := hu_of hr
  have hr1 := hr.mono (show 1 ≤ 2 by decide)
  have dg : ∀ {X : Cx}, X.A.units + 1 < cLine → X.A.units + 1 < cLine := fun h => h
  refine ⟨_, pss_cons (ps_set (i := 2) scWi.nd rfl (Or.inr rfl) (pe_callTy (T := "dict") call_dictD (by rfl) T.dict (by decide +kernel) (pa_cons (pv 1) pa_nil)))
    (pss_cons (ps_set (i := 3) scWi.nd rfl (Or.inl rfl) (pe_callB cr_sortedS (by rfl) T.sorted (by decide +kernel) (pa_cons (pe_op op_cat (pe_dget hu (pv 1) pe_str (fun _ _ => rfl)) (pe_dget hu (pv 1) pe_str (fun _ _ => rfl))) pa_nil)))
    (pss_cut (ps_asg (pe_tup (pa_cons (pe_call GD hr1 rfl mD kD bD .nil pass0 (pa_cons (pv 0) (pa_cons pe_int pa_nil))) (pa_cons (pe_call GP hr rfl mP kP bP .nil pass0 (pa_cons (pv 0) (pa_cons (pe_lst (pa_cons pe_str (pa_cons pe_str pa_nil))) pa_nil))) pa_nil)))
        (pg_tup rfl (pgs_cons (pg_name (i := 4) scWi.nd rfl (Or.inl rfl)) (pgs_cons (pg_name (i := 5) scWi.nd rfl (Or.inr rfl)) pgs_nil))))
    (pss_cut (ps_if (PW.pt (pw_or (pt_cmpR op_eq (pv 4) pe_int (nomark _)) (pw_or1 (PW.pt (pw_and (pt_cmpR op_eq (pv 4) pe_int (nomark _)) (pw_and1 (pt_cmpR (op_eqNil hr.units) (pv 3) (pe_lst pa_nil) (nomark _))))))))
        (pss_one (ps_dput hu (pv 2) pe_str (pe_op op_add pe_int (pe_op op_mod (pe_callTy call_int1 (by rfl) T.int (by decide +kernel) (pa_cons (pe_dget hu (pv 1) pe_str (fun _ _ => rfl)) pa_nil)) pe_int)) rfl))
        (pss_one (ps_if (pt_cmpR op_eq (pv 4) pe_int (nomark _))
          (pss_cons (ps_set (i := 6) scWi.nd rfl (Or.inr rfl) (pe_call GP hr rfl mP kP bP .nil pass0 (pa_cons (pv 0) (pa_cons (pv 3) pa_nil))))
          (pss_cons (ps_dput hu (pv 2) pe_str (pe_lc (te := tVar 8) (tt := ttW1 K) (own := [("_law_one", 8)]) (g := gName 8) rfl scWi.nd (pi_list (pv 3)) (blkOk_by (N := nWi) (sc := defScope sWi) (by decide +kernel)) (fun _ _ _ _ _ => pg_name (i := 8) scWi.nd rfl (Or.inl rfl))
              (fun _ _ _ _ _ => pts_one (pt_cmpR op_ne (pe_cmpR op_in_seq (pv 8) (pe_dget hu (pv 1) pe_str (fun _ _ => rfl)) (by rfl)) (pe_cmpR op_eq (pv 8) (pv 6) (nomark _)) (nomark _))) (fun _ _ _ _ _ => pv 8)) rfl)
          (pss_one (ps_dput hu (pv 2) pe_str (pe_lc (te := tVar 8) (tt := ttW2 K) (own := [("_law_one", 8)]) (g := gName 8) rfl scWi.nd (pi_list (pv 3)) (blkOk_by (N := nWi) (sc := defScope sWi) (by decide +kernel)) (fun _ _ _ _ _ => pg_name (i := 8) scWi.nd rfl (Or.inl rfl))
              (fun _ _ _ _ _ => pts_one (pt_cmpR op_notIn_seq (pv 8) (pe_dget hu (pv 2) pe_str (fun _ _ => rfl)) (by rfl))) (fun _ _ _ _ _ => pv 8)) rfl))))
          (pss_cons (ps_set (i := 7) scWi.nd rfl (Or.inr rfl) (pe_dget hu (pv 1) pe_str (fun _ _ => rfl)))
          (pss_one (ps_dput hu (pv 2) pe_str (pe_lc (te := tVar 8) (tt := ttW3 K) (own := [("_law_one", 8)]) (g := gName 8) rfl scWi.nd (pi_list (pe_lst (pa_cons pe_str (pa_cons pe_str pa_nil)))) (blkOk_by (N := nWi) (sc := defScope sWi) (by decide +kernel)) (fun _ _ _ _ _ => pg_name (i := 8) scWi.nd rfl (Or.inl rfl))
              (fun _ _ _ _ _ => pts_one (pt_cmpR op_ne (pe_cmpR op_in_seq (pv 8) (pv 7) (by rfl)) (pe_cmpR op_eq (pv 8) (pv 5) (nomark _)) (nomark _))) (fun _ _ _ _ _ => pv 8)) rfl))))))
    (pss_one (ps_ret (pv 2)))))), ?_⟩
  obtain ⟨dl, ll, rl, hb, hdl, hll, hrl, hdp, hlp, hrp⟩ := hB.ex
  have c1 : (strv d.ds).length = d.ds.length := List.length_map _
  have c2 : (strv d.ls).length = d.ls.length := List.length_map _
  have hle := ok.le
  have t1 := ok.t1
  have t3 := ok.t3
  refine ⟨_, rfl, b, _, rfl, .inl hb, fun wd hwd => ?_⟩
  have s1 := same_at (o := .dK (rowsB d.t dl ll rl)) hwd
  refine ⟨_, rfl, b, _, rfl, DGet.k (k := Sum.inr "drivers") (s1 _ _ hb), _, rfl, b, _, rfl, DGet.k (k := Sum.inr "listeners") (s1 _ _ hb), dl, ll, _, _, rfl, rfl, s1 _ _ hdl, s1 _ _ hll, Nat.le_trans (show _ ≤ 16 by rw [c1, c2]; omega) (by decide), fun p2 hp2 => ?_⟩
  have s2 := same_at (o := .lst (strv d.ds ++ strv d.ls)) hp2
  refine ⟨p2, d.ds ++ d.ls, rfl, SqL.of ?_, by rw [List.length_append]; omega, fun zs tl hzp hso htl => ?_⟩
  · rw [upd_same]
    show _ = some (HO.lst (List.map _ _))
    rw [List.map_append]
    rfl
  have s3 := same_at (o := .lst (zs.map V.str)) htl
  have s03 := s1.trans (s2.trans s3)
  obtain ⟨H3, e3⟩ : ∃ H3, H3 = upd (upd (upd H wd (.dK (rowsB d.t dl ll rl))) p2 (.lst (strv d.ds ++ strv d.ls))) tl (.lst (zs.map V.str)) := ⟨_, rfl⟩
  have htl3 : H3 tl = some (.lst (strv zs)) := by rw [e3, upd_same]; rfl
  have hwd3 : H3 wd = some (.dK (rowsB d.t dl ll rl)) := by rw [e3]; exact s3 _ _ (s2 _ _ upd_same)
  rw [← e3] at s03
  show tCut _ _ _ _ _
  rw [← e3]
  have htlH : H tl = none := (s1.trans s2).free htl
  have tlp : tl ≠ p := nep hP htlH
  have wdp : wd ≠ p := nep hP hwd
  have twn : tl ≠ wd := fun e => by rw [e, hwd3] at htl3; cases htl3
  have hz16 : zs.length ≤ 16 := by rw [hzp.length_eq, List.length_append]; exact hle
  have P3 := hP.same s03
  refine ⟨fun σ H' => ∃ (wy : Int) (ra : Str), σ = stWd p b wd tl (some (.int wy)) (some (.str ra)) none none ∧ 0 ≤ wy ∧ wy < 3 ∧ (ra = "ground" ∨ ra = "power") ∧ Pen H' p l cs (n + 2) ∧ But H H' p ∧ H' wd = some (.dK (rowsB d.t dl ll rl)) ∧ H' tl = some (.lst (strv zs)), ?_, ?_⟩
  · refine ⟨_, rfl, p, l, cs, n, 3, rfl, P3, by decide, by decide, by omega, fun wy i' g' H4 d0 dm i0 in1 hp4 b34 => ?_⟩
    have P4 := P3.next i0 in1 hp4 b34
    refine ⟨_, rfl, by show 2 ≤ sizeLine; decide, fun q hq => ?_⟩
    have s5 := same_at (o := .lst [V.str "ground", .str "power"]) hq
    refine ⟨p, l, q, cs, _, _, rfl, P4.same s5, upd_same, nep P4 hq, by show 0 < 2; decide, by show 2 < 1000; decide, by omega, fun j x H5 hx P5 b5 => ⟨by show 2 ≤ sizeLine; decide, fun tp htp => ?_⟩⟩
    have s6 := same_at (o := .tup [V.int wy, x]) htp
    have b3 : But H3 (upd H5 tp (.tup [V.int wy, x])) p := (b34.same s5).trans (b5.same s6)
    obtain ⟨ra, rfl, hra⟩ : ∃ ra : Str, x = .str ra ∧ (ra = "ground" ∨ ra = "power") := by
      match j, hx with
      | 0, hx => exact ⟨_, (Option.some.inj hx).symm, .inl rfl⟩
      | 1, hx => exact ⟨_, (Option.some.inj hx).symm, .inr rfl⟩
    exact ⟨tp, _, rfl, SqT.of upd_same, rfl, _, _, rfl, _, _, rfl, rfl, wy, ra, rfl, d0, dm, hra, (P5.same s6).mono (by omega), (But.of s03).trans b3, b3 _ _ wdp hwd3, b3 _ _ tlp htl3⟩
  rintro σ H4 ⟨wy, ra, rfl, w0, w3, hra, P4, b4, hwd4, htl4⟩
  clear P3 hwd3 htl3 s03 e3 s3 s2 s1 htl hp2
  have hb4 := b4.keep hP hb (fun ys z => by cases z)
  have hdl4 := b4 _ _ hdp hdl
  have hll4 := b4 _ _ hlp hll
  have hrl4 := b4 _ _ hrp hrl
  -- after a store to the new dict
  have put : ∀ {H' : Hp} {o : HO}, But H H' p → But H (upd H' wd o) p := fun {H' o} bb a u ha e => by
    rw [upd_ne (ne_of_none e hwd)]
    exact bb _ _ ha e
  have pen : ∀ {H' : Hp} {o : HO} {m : Nat}, Pen H' p l cs m → Pen (upd H' wd o) p l cs m := fun {H' o m} h => by
    obtain ⟨i, g, v1, v2, v3⟩ := h
    have lw : l ≠ wd := fun z => by
      obtain ⟨_, _, _, x2, _⟩ := hP
      rw [z, hwd] at x2
      cases x2
    exact ⟨i, g, by rw [upd_ne (Ne.symm wdp)]; exact v1, by rw [upd_ne lw]; exact v2, v3⟩
  refine ⟨fun σ H' => ∃ o6 o7 d', σ = stWd p b wd tl (some (.int wy)) (some (.str ra)) o6 o7 ∧ d'.ok ∧ DiffD d d' ∧ BareAt H' wd d' p ∧ Pen H' p l cs (n + 3) ∧ But H H' p, ?_, ?_⟩
  case refine_2 =>
    rintro σ H5 ⟨o6, o7, d', rfl, ok', df, hB', P5, b5⟩
    exact ⟨_, rfl, k wd d' H5 ok' df hwd hB' P5 b5⟩
  have topI : ∀ {H5 : Hp}, Pen H5 p l cs (n + 2) → But H H5 p → ∃ o6 o7 d', stWd p b wd tl (some (.int wy)) (some (.str ra)) none none = stWd p b wd tl (some (.int wy)) (some (.str ra)) o6 o7 ∧ d'.ok ∧ DiffD d d' ∧ BareAt (upd H5 wd (.dK (rowsB (1 + d.t % 3) dl ll rl))) wd d' p ∧ Pen (upd H5 wd (.dK (rowsB (1 + d.t % 3) dl ll rl))) p l cs (n + 3) ∧ But H (upd H5 wd (.dK (rowsB (1 + d.t % 3) dl ll rl))) p := fun {H5} P5 b5 => by
    have b6 := put (o := .dK (rowsB (1 + d.t % 3) dl ll rl)) b5
    exact ⟨none, none, ⟨1 + d.t % 3, d.ds, d.ls, d.g, d.r⟩, rfl, ⟨by show (1 : Int) ≤ 1 + d.t % 3; omega, by show (1 : Int) + d.t % 3 ≤ 3; omega, ok.nd, ok.po, ok.sd, ok.sl, ok.le⟩, .inl (by show 1 + d.t % 3 ≠ d.t; omega), ⟨dl, ll, rl, upd_same, b6 _ _ hdp hdl, b6 _ _ hlp hll, b6 _ _ hrp hrl, hdp, hlp, hrp⟩, (pen P5).mono (by omega), b6⟩
  rcases (show wy = 0 ∨ wy = 1 ∨ wy = 2 by omega) with rfl | rfl | rfl
  · refine ⟨_, rfl, rfl, _, rfl, iteT ?_⟩
    refine ⟨_, rfl, b, _, rfl, DGet.k (k := Sum.inr "top") hb4, .inl ⟨_, rfl, _, _, rfl, rfl, (by show (0 : Int) < 3; decide), 1, _, rfl, rfl, _, rfl, wd, _, rfl, DPut.k (k := Sum.inr "top") hwd4 (by show 4 < sizeLine; decide), ?_⟩⟩
    rw [put_top]
    exact topI P4 b4
  · refine ⟨_, rfl, rfl, _, rfl, iteF ?_⟩
    refine ⟨_, rfl, rfl, _, rfl, iteT ?_⟩
    refine ⟨_, rfl, by show 0 ≤ sizeLine; decide, fun e he => ?_⟩
    have s5 := same_at (o := .lst []) he
    refine ⟨tl, e, strv zs, rfl, rfl, s5 _ _ htl4, upd_same, _, rfl, ?_⟩
    have b5 := b4.same s5
    have P5 := P4.same s5
    cases hzs : zs with
    | nil =>
      refine iteT ?_
      refine ⟨_, rfl, b, _, rfl, DGet.k (k := Sum.inr "top") (s5 _ _ hb4), .inl ⟨_, rfl, _, _, rfl, rfl, (by show (0 : Int) < 3; decide), 1, _, rfl, rfl, _, rfl, wd, _, rfl, DPut.k (k := Sum.inr "top") (s5 _ _ hwd4) (by show 4 < sizeLine; decide), ?_⟩⟩
      rw [put_top]
      exact topI P5 b5
    | cons z1 zr =>
      refine iteF ?_
      refine ⟨_, rfl, rfl, _, rfl, iteT ?_⟩
      -- a leg of the other kind
      have pos : 0 < (strv zs).length := by rw [hzs]; exact Nat.succ_pos _
      have zl : (strv zs).length = zs.length := List.length_map _
      refine ⟨_, rfl, _, rfl, p, l, tl, cs, _, _, rfl, P5, s5 _ _ htl4, tlp, pos, by rw [zl]; omega, by omega, fun j x H6 hx P6 b6 => ?_⟩
      obtain ⟨z0, hz0, rfl⟩ : ∃ z0 ∈ zs, x = .str z0 := by
        obtain ⟨z0, h1, h2⟩ := List.mem_map.mp (List.mem_of_getElem? hx)
        exact ⟨z0, h1, h2.symm⟩
      have htl6 := b6 _ _ tlp (s5 _ _ htl4)
      have hwd6 := b6 _ _ wdp (s5 _ _ hwd4)
      have b06 := b5.trans b6
      obtain ⟨okO, dfO⟩ := oth_ok ok hzp (show PyProof.Rows.sortedS zs = true from hso) hz0
      have eds : (othD d zs z0).ds = zs.filter fun o => decide (o ∈ d.ds) != decide (o = z0) := rfl
      have els : (othD d zs z0).ls = zs.filter fun o => !decide (o ∈ (othD d zs z0).ds) := rfl
      obtain ⟨od, eod⟩ : ∃ od, od = othD d zs z0 := ⟨_, rfl⟩
      rw [← eod] at okO dfO eds els
      refine ⟨_, rfl, tl, rfl, ⟨_, SqL.of htl6⟩, fun D1 hD1 => ?_⟩
      refine lc_strF (fun o => decide (o ∈ d.ds) != decide (o = z0)) htl6 hD1 (by omega) (fun x => rfl) (fun x => rfl) ?_ fun H7 s7 d7 => ?_
      · intro o ho H' s R kR
        have bs := b06.same s
        refine ⟨_, rfl, _, rfl, b, _, rfl, DGet.k (k := Sum.inr "drivers") (bs.keep hP hb (fun ys z => by cases z)), dl, strv d.ds, rfl, .inl (SqL.of (bs _ _ hdp hdl)), rfl, flat_strs _, _, rfl, _, rfl, rfl, rfl, _, rfl, ?_⟩
        have e1 : (if (false : Bool) = true then !inV (V.str o) (strv d.ds) else inV (V.str o) (strv d.ds)) = decide (o ∈ d.ds) := inV_strs d.ds o
        have e2 : decide (V.str o = V.str z0) = decide (o = z0) := decide_eq_decide.mpr ⟨fun h => V.str.inj h, fun h => congrArg V.str h⟩
        rw [e1, e2]
        have e3 : ∀ x y : Bool, (!decide (V.bl x = V.bl y)) = (x != y) := by decide
        rw [e3]
        exact kR _ (Same.refl _)
      rw [← eds] at d7
      have d1p : D1 ≠ p := nep P6 hD1
      have hwd7 := s7 _ _ hwd6
      refine ⟨_, rfl, wd, _, rfl, DPut.k (k := Sum.inr "drivers") hwd7 (by show 4 < sizeLine; decide), ?_⟩
      rw [put_drv]
      have b07 := b06.same s7
      have b08 := put (o := .dK (rowsB d.t D1 ll rl)) b07
      have D1w : D1 ≠ wd := fun e => by rw [e, hwd7] at d7; cases d7
      have twd := twn
      have d8 : upd H7 wd (.dK (rowsB d.t D1 ll rl)) D1 = some (.lst (strv od.ds)) := by rw [upd_ne D1w]; exact d7
      have htl8 : upd H7 wd (.dK (rowsB d.t D1 ll rl)) tl = some (.lst (strv zs)) := by rw [upd_ne twn]; exact s7 _ _ htl6
      have hwd8 : upd H7 wd (.dK (rowsB d.t D1 ll rl)) wd = some (.dK (rowsB d.t D1 ll rl)) := upd_same
      have P8 := pen (o := .dK (rowsB d.t D1 ll rl)) (P6.same s7)
      obtain ⟨H8, e8⟩ : ∃ H8, H8 = upd H7 wd (.dK (rowsB d.t D1 ll rl)) := ⟨_, rfl⟩
      rw [← e8] at b08 d8 htl8 hwd8 P8 ⊢
      refine ⟨_, rfl, tl, rfl, ⟨_, SqL.of htl8⟩, fun D2 hD2 => ?_⟩
      refine lc_strF (fun o => !decide (o ∈ od.ds)) htl8 hD2 (by omega) (fun x => rfl) (fun x => rfl) ?_ fun H9 s9 d9 => ?_
      · intro o ho H' s R kR
        refine ⟨_, rfl, _, rfl, wd, _, rfl, DGet.k (k := Sum.inr "drivers") (s _ _ hwd8), D1, strv od.ds, rfl, .inl (SqL.of (s _ _ d8)), rfl, flat_strs _, _, rfl, ?_⟩
        have e1 : (if (true : Bool) = true then !inV (V.str o) (strv od.ds) else inV (V.str o) (strv od.ds)) = !decide (o ∈ od.ds) := congrArg (!·) (inV_strs od.ds o)
        rw [e1]
        exact kR _ (Same.refl _)
      rw [← els] at d9
      have d2p : D2 ≠ p := nep P8 hD2
      have hwd9 := s9 _ _ hwd8
      refine ⟨_, rfl, wd, _, rfl, DPut.k (k := Sum.inr "listeners") hwd9 (by show 4 < sizeLine; decide), ?_⟩
      rw [put_lis]
      have b09 := b08.same s9
      have b10 := put (o := .dK (rowsB d.t D1 D2 rl)) b09
      have D2w : D2 ≠ wd := fun e => by rw [e, hwd9] at d9; cases d9
      refine ⟨_, _, od, rfl, okO, dfO, ⟨D1, D2, rl, ?_, ?_, ?_, ?_, d1p, d2p, hrp⟩, (pen (P8.same s9)).mono (by omega), b10⟩
      · rw [upd_same, eod]; rfl
      · rw [upd_ne D1w]; exact s9 _ _ d8
      · rw [upd_ne D2w]; exact d9
      · rw [eod]; exact b10 _ _ hrp hrl
  · refine ⟨_, rfl, rfl, _, rfl, iteF ?_⟩
    refine ⟨_, rfl, rfl, _, rfl, iteF ?_⟩
    refine ⟨_, rfl, rfl, _, rfl, iteF ?_⟩
    -- a rail
    refine ⟨_, rfl, b, _, rfl, DGet.k (k := Sum.inr "rails") hb4, ?_⟩
    refine ⟨by show 2 ≤ sizeLine; decide, fun q hq => ?_⟩
    have s5 := same_at (o := .lst [V.str "ground", .str "power"]) hq
    have hq5 : upd H4 q (.lst [V.str "ground", .str "power"]) q = some (.lst (strv ["ground", "power"])) := upd_same
    refine ⟨q, rfl, ⟨_, SqL.of hq5⟩, fun D1 hD1 => ?_⟩
    refine lc_strF (fun o => decide (o ∈ railsZ d.g d.r) != decide (o = ra)) hq5 hD1 (by show 2 ≤ 60; decide) (fun x => rfl) (fun x => rfl) ?_ fun H7 s7 d7 => ?_
    · intro o ho H' s R kR
      refine ⟨_, rfl, _, rfl, rl, strv (railsZ d.g d.r), rfl, .inl (SqL.of (s _ _ (s5 _ _ hrl4))), rfl, flat_strs _, _, rfl, _, rfl, rfl, rfl, _, rfl, ?_⟩
      have e1 : (if (false : Bool) = true then !inV (V.str o) (strv (railsZ d.g d.r)) else inV (V.str o) (strv (railsZ d.g d.r))) = decide (o ∈ railsZ d.g d.r) := inV_strs _ o
      have e2 : decide (V.str o = V.str ra) = decide (o = ra) := decide_eq_decide.mpr ⟨fun h => V.str.inj h, fun h => congrArg V.str h⟩
      rw [e1, e2]
      have e3 : ∀ x y : Bool, (!decide (V.bl x = V.bl y)) = (x != y) := by decide
      rw [e3]
      exact kR _ (Same.refl _)
    have s57 := s5.trans s7
    have hwd7 := s57 _ _ hwd4
    have d1p : D1 ≠ p := nep (P4.same s5) hD1
    refine ⟨_, rfl, wd, _, rfl, DPut.k (k := Sum.inr "rails") hwd7 (by show 4 < sizeLine; decide), ?_⟩
    rw [put_rai]
    have b07 := b4.same s57
    have b08 := put (o := .dK (rowsB d.t dl ll D1)) b07
    have D1w : D1 ≠ wd := fun e => by rw [e, hwd7] at d7; cases d7
    obtain ⟨q1, q2⟩ := rai_eq d.g d.r
    rcases hra with rfl | rfl
    · rw [q1] at d7
      exact ⟨_, _, ⟨d.t, d.ds, d.ls, !d.g, d.r⟩, rfl, ⟨ok.t1, ok.t3, ok.nd, ok.po, ok.sd, ok.sl, ok.le⟩, .inr (.inr (.inl (by show (!d.g) ≠ d.g; cases d.g <;> decide))), ⟨dl, ll, D1, upd_same, b08 _ _ hdp hdl, b08 _ _ hlp hll, by rw [upd_ne D1w]; exact d7, hdp, hlp, d1p⟩, (pen (P4.same s57)).mono (by omega), b08⟩
    · rw [q2] at d7
      exact ⟨_, _, ⟨d.t, d.ds, d.ls, d.g, !d.r⟩, rfl, ⟨ok.t1, ok.t3, ok.nd, ok.po, ok.sd, ok.sl, ok.le⟩, .inr (.inr (.inr (by show (!d.r) ≠ d.r; cases d.r <;> decide))), ⟨dl, ll, D1, upd_same, b08 _ _ hdp hdl, b08 _ _ hlp hll, by rw [upd_ne D1w]; exact d7, hdp, hlp, d1p⟩, (pen (P4.same s57)).mono (by omega), b08⟩
end
end Sj
namespace Sj
open PySem L2 Sup StK Own Shw Exg Grd KepE LamX
open NdefX (NF NScope ncx envF startF nscope_by)
open C8 (pss_cut tCut)
/-! k67: _law_members; Bench by words; a board of a frame alone -/
abbrev sMms : Stmt := top 58
theorem scMms : FnScope ["_law_bare_here"] ["_law_bare_here"] (defScope sMms) := ⟨rfl, rfl, rfl, by decide +kernel, rfl, by decide +kernel, by decide +kernel⟩
def memB (d : BareD) : List Str := d.ds ++ d.ls ++ railsZ d.g d.r
def spMms : Sp := fun vs H Q _ => ∃ (b : Addr) (d : BareD) (p : Addr), vs = [.ref b] ∧ BareAt H b d p ∧ d.ok ∧ ∀ zs q H', zs.Perm (memB d) → zs.length ≤ 18 → H q = none → H' q = some (.lst (strv zs)) → Same H H' → Q (.ref q) H'
theorem rails_le (g r : Bool) : (railsZ g r).length ≤ 2 := by cases g <;> cases r <;> decide
theorem rails_nd (g r : Bool) : (railsZ g r).Nodup := by cases g <;> cases r <;> decide +kernel
theorem rails_out {g r : Bool} {z : Str} (h : z ∈ railsZ g r) : z ∉ poolS := by
  revert z
  cases g <;> cases r <;> decide +kernel
theorem rails_res {g r : Bool} {z : Str} (h : z ∈ railsZ g r) : z ∈ resZ := by
  revert z
  cases g <;> cases r <;> decide +kernel
theorem memB_nd {d : BareD} (ok : d.ok) : (memB d).Nodup := List.nodup_append.mpr ⟨ok.nd, rails_nd _ _, fun a ha b hb e => rails_out hb (e ▸ ok.po a ha)⟩
theorem part_nil {ks : Kinds} {CF : Addr} {H : Hp} {m : Addr} {fd : FrD} (hF : FrIs ks CF H m fd) (nd : (membZ fd).Nodup) : PartOf ks CF H m fd [] :=
  ⟨hF, fun x hx => (by cases hx), fun z hz => (by cases hz), .nil, nd, Nat.zero_le _, fun x hx => by cases hx⟩
theorem boF_frame (f B D : Addr) : (boF f B D).lookup ("frame" : Str) = some (V.ref f) := by
  unfold boF
  rw [lookup_putF, if_neg (by decide +kernel), lookup_putF, if_neg (by decide +kernel), lookup_putF, if_pos rfl]
theorem BoAt.bd {H : Hp} {o CB f : Addr} {L : List (Addr × List Str)} (h : BoAt H o CB f L) : BdAt H o CB f := by
  obtain ⟨dx, B, D, hs, h1, _⟩ := h
  exact ⟨dx, _, h1, boF_frame _ _ _⟩
theorem BdAt.ext {H H' : Hp} {o CB f : Addr} (h : BdAt H o CB f) (s : ExtN H H') : BdAt H' o CB f := by
  obtain ⟨dx, fs, h1, h2⟩ := h
  exact ⟨dx, fs, s _ _ h1 (fun ps z => by cases z), h2⟩
section
variable {P : Program} {w : World} {K : PySem.W.Frag} {mg : Str → Option Value} {base : Heap}
theorem ok_mms {f : Addr} {fd : FuncData} (F : Fun K "_law_members" "_law_members" sMms f fd) (mS : mg "sorted" = none) : FnOk P w K mg base CX0 1 f fd ["_law_bare_here"] spMms := by
  refine F.ok scMms (fun vs H Q E h => ?_) (fun cdv A outer s H vs Q E hr h => ?_)
  · obtain ⟨b, d, p, rfl, _⟩ := h
    rfl
  · obtain ⟨b, d, p, rfl, hB, ok, k⟩ := h
    have hu := hu_of hr
    refine ⟨_, pss_one (ps_ret (pe_callB cr_sortedS (by rfl) mS (by decide +kernel) (pa_cons (pe_op op_cat (pe_op op_cat (pe_dget hu (pv 0) pe_str (fun _ _ => rfl)) (pe_dget hu (pv 0) pe_str (fun _ _ => rfl))) (pe_dget hu (pv 0) pe_str (fun _ _ => rfl))) pa_nil))), ?_⟩
    obtain ⟨dl, ll, rl, hb, hdl, hll, hrl, _⟩ := hB.ex
    have c1 : (strv d.ds).length = d.ds.length := List.length_map _
    have c2 : (strv d.ls).length = d.ls.length := List.length_map _
    have c3 : (strv (railsZ d.g d.r)).length = (railsZ d.g d.r).length := List.length_map _
    have hrl2 := rails_le d.g d.r
    have hle := ok.le
    refine ⟨_, rfl, b, _, rfl, DGet.k (k := Sum.inr "drivers") hb, _, rfl, b, _, rfl, DGet.k (k := Sum.inr "listeners") hb, dl, ll, _, _, rfl, rfl, hdl, hll, Nat.le_trans (show _ ≤ 16 by rw [c1, c2]; omega) (by decide), fun p2 hp2 => ?_⟩
    have s2 := same_at (o := .lst (strv d.ds ++ strv d.ls)) hp2
    refine ⟨_, rfl, b, _, rfl, DGet.k (k := Sum.inr "rails") (s2 _ _ hb), p2, rl, _, _, rfl, rfl, upd_same, s2 _ _ hrl, Nat.le_trans (show _ ≤ 18 by rw [List.length_append, c1, c2, c3]; omega) (by decide), fun p3 hp3 => ?_⟩
    have s3 := same_at (o := .lst ((strv d.ds ++ strv d.ls) ++ strv (railsZ d.g d.r))) hp3
    refine ⟨p3, memB d, rfl, SqL.of ?_, by unfold memB; rw [List.length_append, List.length_append]; omega, fun zs tl hzp hso htl => ?_⟩
    · rw [upd_same]
      unfold memB
      show _ = some (HO.lst (List.map _ _))
      rw [List.map_append, List.map_append]
      rfl
    · exact k zs tl _ hzp (by rw [hzp.length_eq]; unfold memB; rw [List.length_append, List.length_append]; omega) ((s2.trans s3).free htl) upd_same ((s2.trans s3).trans (same_at htl))
abbrev ksBe : List Str := ["hurt", "board", "chain"]
theorem be_kw {f CF CC CB CE CI CJ CH : Addr} {fd : FuncData} {ks : Kinds} (F : FunD K "__init__" "Bench.__init__" (defArgs sBeI) (defBody sBeI) (defScope sBeI) [.non] [] f fd) (G : FnOk P w K mg base (L2.CX P w) 9 f fd ["self", "chain", "board", "hurt"] (spBeI ks CF CC CB CE CI CJ CH)) :
    FnK P w K mg base (L2.CX P w) 9 f ksBe (fun vs zs H Q E => vs.length = 1 ∧ spBeI ks CF CC CB CE CI CJ CH (vs ++ zs.reverse) H Q E) := by
  have hb : KBn K fd ["self", "chain", "board", "hurt"] 1 ksBe (fun us ws => us ++ ws.reverse) (fun vs zs => vs ++ zs.reverse) := by
    obtain ⟨oc, od, dV, kV, doc, pm, an, cdv, ct, osl, rfl, lk, hcd, hD, hK⟩ := F.ex
    rcases hD with ⟨e, _⟩ | ⟨_, T, o, its, m, rfl, lT, oT, rT⟩
    · cases e
    refine ⟨fun s us ws X h1 h2 => ?_, fun r1 r2 => r1.append (vals_rev r2)⟩
    match us, ws, its, h1, h2, rT.length with
    | [a], [b, c, e], [n], _, _, _ =>
      intro M A E Q q
      unfold bindArgs
      refine wpAny_bind (wpAny_of_eq rfl ?_)
      refine wpAny_bind (wpAny_seqItems (X _ _ lT) oT ?_)
      exact wpAny_of_eq rfl q
  exact fnK_of G hb
theorem be_bd {f : Addr} {fd : FuncData} (F : FunD K "__init__" "Bench.__init__" (defArgs sBeI) (defBody sBeI) (defScope sBeI) [.non] [] f fd) : ∃ ds, Vals [V.non] ds ∧ Binds K fd ["self", "chain", "board", "hurt"] ds :=
  F.binds1 (ps := ["self", "chain", "board", "hurt"]) 3 0 (by intro z; cases z) rfl (fun T kV doc pm an cdv ct us its h1 h2 => match us, its, h1, h2 with
    | [a, b, c], [n], _, _ => ⟨_, rfl, rfl⟩)
end
end Sj
namespace Sj
open PySem L2 Sup StK Own Shw Exg Grd KepE LamX
open NdefX (NF NScope ncx envF startF nscope_by)
open C8 (pss_cut tCut)
/-! k67: _law_bench_right -/
abbrev sBr : Stmt := top 68
abbrev nBr : List Str := ["_law_pen_here", "_law_bare_here", "_law_rows", "_law_field", "_law_turn", "_law_wide_here", "_law_is_other", "_law_due", "_law_at", "_law_made", "_law_stage", "_law_tag"]
theorem scBr : FnScope nBr ["_law_pen_here", "_law_bare_here", "_law_rows"] (defScope sBr) := ⟨rfl, rfl, rfl, by decide +kernel, rfl, by decide +kernel, by decide +kernel⟩
structure BrT (P : Program) (w : World) (K : PySem.W.Frag) (mg : Str → Option Value) (base : Heap) (ks : Kinds) (CF CC CB CE CI CJ CX' CH gO fHi fBi fBe : Addr) : Prop where
  draw : Fi P w K mg base "_law_draw" 1 ["_law_pen_here", "_law_many"] spDraw
  pick : Fi P w K mg base "_law_pick" 2 ["_law_pen_here", "_law_some"] spPick
  frm : Fi P w K mg base "_law_frame" 7 ["_law_bare_here"] (spFrm ks CF)
  mms : Fi P w K mg base "_law_members" 1 ["_law_bare_here"] spMms
  wide : Fi P w K mg base "_law_wide" 3 ["_law_pen_here", "_law_bare_here"] spWi
  he : ∃ g fdg, mg "_law_heard" = some (.ref g) ∧ Fun K "_law_heard" "_law_heard" sHea g fdg ∧ Binds K fdg ["_law_ask"] []
  ht : HeT K mg CX' CI CJ
  ne : ks.drv ≠ ks.lis
  mC : mg "Chain" = some (.ref CC)
  cls : ∃ mc pO, ClX.CRead K CC mc ∧ ClX.CMet K CC mc "of" pO gO
  of0 : FnK P w K mg base (L2.CX P w) 6 gO [] (fun vs zs H Q E => vs.length = 3 ∧ spChO K ks CF CC vs H Q E)
  mH : mg "Hurt" = some (.ref CH)
  mkH : Mk K CH fHi
  hO : ∃ fd, Binds K fd ["self", "link", "name"] [] ∧ FnOk P w K mg base (L2.CX P w) 3 fHi fd ["self", "link", "name"] (spHuI K CI CH)
  mB : mg "Board" = some (.ref CB)
  mkB : Mk K CB fBi
  bS : FnR P w K mg base (L2.CX P w) 5 fBi (spBoS K ks CF CB)
  mE : mg "Bench" = some (.ref CE)
  mkE : Mk K CE fBe
  eK : FnK P w K mg base (L2.CX P w) 9 fBe ksBe (fun vs zs H Q E => vs.length = 1 ∧ spBeI ks CF CC CB CE CI CJ CH (vs ++ zs.reverse) H Q E)
  eO : ∃ fd ds, Vals [V.non] ds ∧ Binds K fd ["self", "chain", "board", "hurt"] ds ∧ FnOk P w K mg base (L2.CX P w) 9 fBe fd ["self", "chain", "board", "hurt"] (spBeI ks CF CC CB CE CI CJ CH)
  range : mg "range" = none
  len : mg "len" = none
  int : mg "int" = none
def teBk (K : PySem.W.Frag) (ks : Kinds) (CF CC CB CE CI CJ CH : Addr) : XK → TE := fun E => tMakeS CE ksBe.length (fun vs zs H Q E => vs.length = 1 ∧ spBeI ks CF CC CB CE CI CJ CH (vs ++ zs.reverse) H Q E) E tNil
  (tCons (tMake CH (spHuI K CI CH) [] E0 (tCons (tVar 8) (tCons (tVar 11) tNil))) (tCons (tVar 10) (tCons (tVar 9) tNil)))
def teBp (ks : Kinds) (CF CC CB CE CI CJ CH : Addr) : XK → TE := fun E => tMake CE (spBeI ks CF CC CB CE CI CJ CH) [.non] E (tCons (tVar 9) (tCons (tVar 10) tNil))
def spBr (T : List (Addr × Str)) : Sp := fun vs H Q _ => ∃ (p l : Addr) (cs : List Int) (n : Nat) (b q : Addr) (d : BareD) (G : List (Addr × List Str)), vs = [.ref p, .ref b, .ref q] ∧ Pen H p l cs n ∧ BareAt H b d p ∧ d.ok ∧ RowP H p q G ∧ 1 ≤ G.length ∧ G.length ≤ 8 ∧ (allN G).Perm (d.ds ++ d.ls) ∧ n < 70000 ∧ Tabs T H ∧
  ∀ H', Pen H' p l cs (n + 60) → Tabs T H' → Q (.bl true) H'
theorem ChIs.ext {ks : Kinds} {CF CC : Addr} {H H' : Hp} {o f : Addr} {d : FrD} {L : List (Addr × List Str)} (h : ChIs ks CF CC H o f d L) (s : ExtN H H') : ChIs ks CF CC H' o f d L := by
  obtain ⟨dx, B, h1, h2, h3⟩ := h.at_
  exact ⟨⟨dx, B, s _ _ h1 (fun ps z => by cases z), s _ _ h2 (fun ps z => by cases z), fun x hx => s _ _ (h3 x hx) (fun ps z => by cases z)⟩, h.fr.ext s, h.p⟩
/-- what stands while the law's turns go on -/
structure InB (ks : Kinds) (CF CC : Addr) (T : List (Addr × Str)) (H : Hp) (p l : Addr) (cs : List Int) (n : Nat) (b q m f : Addr) (d : BareD) (fd : FrD) (G L : List (Addr × List Str)) : Prop where
  pen : Pen H p l cs n
  ba : BareAt H b d p
  ro : RowP H p q G
  ch : ChIs ks CF CC H m f fd L
  tb : Tabs T H
section
variable {ks : Kinds} {CF CC : Addr} {T : List (Addr × Str)} {H H' : Hp} {p l : Addr} {cs : List Int} {n n' : Nat} {b q m f : Addr} {d : BareD} {fd : FrD} {G L : List (Addr × List Str)}
theorem InB.ext (h : InB ks CF CC T H p l cs n b q m f d fd G L) (s : ExtN H H') (t : Tabs T H') : InB ks CF CC T H' p l cs n b q m f d fd G L := ⟨h.pen.ext s, h.ba.ext s, h.ro.ext s, h.ch.ext s, t⟩
theorem InB.same (h : InB ks CF CC T H p l cs n b q m f d fd G L) (s : Same H H') : InB ks CF CC T H' p l cs n b q m f d fd G L := h.ext (.of s) (h.tb.ext s)
theorem InB.bp (h : InB ks CF CC T H p l cs n b q m f d fd G L) (bt : But H H' p) (P : Pen H' p l cs n') : InB ks CF CC T H' p l cs n' b q m f d fd G L := by
  obtain ⟨xs, hp⟩ := h.pen.at'
  exact ⟨P, h.ba.but h.pen bt, h.ro.but bt, h.ch.butq hp bt, tabs_but h.tb hp bt⟩
theorem InB.mono (h : InB ks CF CC T H p l cs n b q m f d fd G L) (e : n ≤ n') : InB ks CF CC T H p l cs n' b q m f d fd G L := { h with pen := h.pen.mono e }
end
/-- what Bench raises -/
def rBe (io lt nm : Bool) : Option (Bool × Str) := if io then some (true, "frame") else if lt then some (false, "link") else if nm then none else some (false, "name")
abbrev stB (p b q f m : Addr) (o4 o5 o6 o7 o8 o10 o11 : Option V) : L2.St := [some (.ref p), some (.ref b), some (.ref q), some (.ref f), o4, o5, o6, o7, o8, some (.ref m), o10, o11]
abbrev nothZ : List Str := ["nothing"]
def moreZ : List Str := ["nothing", "ground", "power", "nobody"]
theorem tag_ok {d : BareD} (ok : d.ok) {z : Str} (h : z ∈ memB d ++ moreZ) : z.length ≤ 1000 ∧ (isName z || decide (z ∈ resZ)) = true := by
  have more : ∀ z ∈ moreZ, z.length ≤ 1000 ∧ (isName z || decide (z ∈ resZ)) = true := by
    have h : (moreZ.all fun z => decide (z.length ≤ 1000) && (isName z || decide (z ∈ resZ))) = true := by decide +kernel
    intro z hz
    have e := List.all_eq_true.mp h z hz
    rw [Bool.and_eq_true, decide_eq_true_eq] at e
    exact e
  rcases List.mem_append.mp h with h | h
  · unfold memB at h
    rcases List.mem_append.mp h with h | h
    · obtain ⟨e1, e2⟩ := pool_ok z (ok.po z h)
      exact ⟨Nat.le_trans e2 (by decide), by rw [e1]; rfl⟩
    · have hr := rails_res h
      refine ⟨?_, by rw [decide_eq_true hr, Bool.or_true]⟩
      have : ∀ z ∈ resZ, z.length ≤ 1000 := by decide +kernel
      exact this z hr
  · exact more z h
section
variable {P : Program} {w : World} {K : PySem.W.Frag} {mg : Str → Option Value} {base : Heap}
theorem ok_br {f c Ph Pb CF CC CB CE CI CJ CX' CH gO fHi fBi fBe : Addr} {ks : Kinds} {oc kV doc pm ct : Value} {od an : Option Addr} {osl : Array (Option Value)} (lk : K.lookup f = some ⟨oc, od, .func (PySem.W.fnOf "_law_bench_right" "_law_bench_right" (defArgs sBr) (defBody sBr) (defScope sBr) .none kV doc pm an (.ref c) ct), osl⟩)
    (hcd : PySem.W.codeIn K (.ref c) "_law_bench_right" = true) (T : BrT P w K mg base ks CF CC CB CE CI CJ CX' CH gO fHi fBi fBe) (TB : TabB base mg c Pb) (hne : Ph ≠ Pb) :
    FnG P w K mg base CX0 14 f (PySem.W.fnOf "_law_bench_right" "_law_bench_right" (defArgs sBr) (defBody sBr) (defScope sBr) .none kV doc pm an (.ref c) ct) ["_law_pen_here", "_law_bare_here", "_law_rows"] (spBr (tab2 Ph Pb)) := by
  obtain ⟨g, fdg, mh, Fh, bh⟩ := T.he
  obtain ⟨och, odh, kVh, doch, pmh, anh, cdh, cth, oslh, rfl, lkh, hch⟩ := Fh.ex
  obtain ⟨fD, fdD, mD, kD, bD, GD⟩ := T.draw
  obtain ⟨fP, fdP, mP, kP, bP, GP⟩ := T.pick
  obtain ⟨fF, fdF, mF, kF, bF, GF⟩ := T.frm
  obtain ⟨fM, fdM, mM, kM, bM, GM⟩ := T.mms
  obtain ⟨fW, fdW, mW, kW, bW, GW⟩ := T.wide
  obtain ⟨mc, pO, cr, cO⟩ := T.cls
  obtain ⟨fdH, bH, GH⟩ := T.hO
  obtain ⟨fdE, dE, vE, bE, GE⟩ := T.eO
  have mC := T.mC
  have mE := T.mE
  have mH := T.mH
  refine fun_gC lk hcd scBr (fun vs H Q E h => ?_) (fun A outer s H vs Q E hg hr h => ?_)
  · obtain ⟨p, l, cs, n, b, q, d, G, rfl, _⟩ := h
    rfl
  obtain ⟨p, l, cs, n, b, q, d, G, rfl, hP, hB, ok, hR, h1, h8, hpm, hn, hT, k⟩ := h
  have hu := hu_of hr
  have hr1 := hr.mono (show 1 ≤ 13 by decide)
  have hr2 := hr.mono (show 2 ≤ 13 by decide)
  have hr3 := hr.mono (show 3 ≤ 13 by decide)
  have hr6 := hr.mono (show 6 ≤ 13 by decide)
  have hr7 := hr.mono (show 7 ≤ 13 by decide)
  have huT : ∀ p ∈ tab2 Ph Pb, p.1 = Pb → p.2 = qBr := fun p hp e => by
    rcases List.mem_cons.mp hp with rfl | hp
    · exact absurd e hne
    · rw [List.mem_singleton.mp hp]
  have hmT : (Pb, qBr) ∈ tab2 Ph Pb := List.mem_cons_of_mem _ List.mem_cons_self
  have HG := heard_gives (X := (cxOf CX0 P w K mg base nBr "_law_bench_right" (defScope sBr) f (.ref c) A outer s H E).nox) (g := g) (cdg := cdh) (q := qBr) T.ht
  refine ⟨_, pss_cons (ps_set (i := 3) scBr.nd rfl (Or.inl rfl) (pe_call GF hr7 rfl mF kF bF .nil pass0 (pa_cons (pv 1) pa_nil)))
    (pss_cons (ps_set (i := 9) scBr.nd rfl (Or.inr rfl) (pe_cmethK (pe_glob rfl mC (v := .ref CC) rfl) cr cO T.of0 hr6 (passNo rfl rfl) (pa_cons (pv 3) (pa_cons (pv 2) pa_nil)) pk_nil))
    (pss_cons (ps_for PassesOwn.never rfl (pi_range1 rfl T.range (pa_cons pe_int pa_nil)) (pg_name (i := 4) scBr.nd rfl (Or.inl rfl))
      (pss_cons (ps_set (i := 5) scBr.nd rfl (Or.inl rfl) (pe_call GW hr3 rfl mW kW bW .nil pass0 (pa_cons (pv 0) (pa_cons (pv 1) pa_nil))))
      (pss_cut (ps_asg (pe_tup (pa_cons (pe_call GD hr1 rfl mD kD bD .nil pass0 (pa_cons (pv 0) (pa_cons pe_int pa_nil))) (pa_cons (pe_call GP hr2 rfl mP kP bP .nil pass0 (pa_cons (pv 0) (pa_cons (pe_op op_cat (pe_call GM hr1 rfl mM kM bM .nil pass0 (pa_cons (pv 1) pa_nil)) (pe_lst (pa_cons pe_str (pa_cons pe_str (pa_cons pe_str (pa_cons pe_str pa_nil)))))) pa_nil))) pa_nil)))
          (pg_tup rfl (pgs_cons (pg_name (i := 8) scBr.nd rfl (Or.inr rfl)) (pgs_cons (pg_name (i := 11) scBr.nd rfl (Or.inr rfl)) pgs_nil))))
      (pss_cut (ps_set (i := 6) scBr.nd rfl (Or.inl rfl) (pe_cmpR op_eq (pe_call GD hr1 rfl mD kD bD .nil pass0 (pa_cons (pv 0) (pa_cons pe_int pa_nil))) pe_int (nomark _)))
      (pss_cut (ps_set (i := 7) scBr.nd rfl (Or.inl rfl) (pe_ifExp (pt_cmpR op_in_seq (pv 11) (pe_op op_cat (pe_call GM hr1 rfl mM kM bM .nil pass0 (pa_cons (pv 1) pa_nil)) (pe_lst (pa_cons pe_str pa_nil))) (by rfl)) pe_non pe_str))
      (pss_cut (ps_set (i := 7) scBr.nd rfl (Or.inl rfl) (pe_ifExp (pt_val (pv 6)) pe_str (pe_ifExp (pt_cmpR op_gt (pv 8) (pe_callB call_len_seq (by rfl) T.len PySem.boot_len (pa_cons (pv 2) pa_nil)) (nomark _)) pe_str (pv 7))))
      (pss_cut (ps_set (i := 10) scBr.nd rfl (Or.inr rfl) (StX.pe_makeR T.mkB T.bS hr6 rfl T.mB (passNo rfl rfl) (pa_cons (pe_call GF hr7 rfl mF kF bF .nil pass0 (pa_cons (pe_ix ix_list (pe_lst (pa_cons (pv 1) (pa_cons (pv 5) pa_nil))) (pe_callTy call_int1 (by rfl) T.int (by decide +kernel) (pa_cons (pv 6) pa_nil)) (fun _ _ => rfl)) pa_nil)) pa_nil)))
      (pss_cut (ps_if (pt_cmpR op_ne (pe_lamcallG (t := teBk K ks CF CC CB CE CI CJ CH) (T := tab2 Ph Pb) (Ng := nHea) (k := 11) (c := c) (P := Pb) rfl mh Fh.kp lkh hch bh scHea rfl (Or.inl rfl) HG TB rfl hmT huT hg hr (lamS_by (sc := defScope sBr) (by decide +kernel)) rfl (fun _ _ _ _ _ => rfl)
            (fun B st s1 H1 E f' c' hgB hr' => pe_makeS0 T.mkE T.eK (hr'.mono (by decide)) rfl mE (passes_call (takes_of rfl rfl rfl rfl) fun _ _ _ _ h => h) (pk_cons (pe_make T.mkH GH (hr'.mono (by decide)) rfl mH bH .nil (passNo rfl rfl) (pa_cons (pv 8) (pa_cons (pv 11) pa_nil))) (pk_cons (pv 10) (pk_cons (pv 9) pk_nil))))) (pv 7) (nomark _)) (pss_one (ps_ret pe_bl)) pss_nil)
      (pss_one (ps_if (pt_cmpR op_ne (pe_lamcallG (t := teBp ks CF CC CB CE CI CJ CH) (T := tab2 Ph Pb) (Ng := nHea) (k := 11) (c := c) (P := Pb) rfl mh Fh.kp lkh hch bh scHea rfl (Or.inl rfl) HG TB rfl hmT huT hg hr (lamS_by (sc := defScope sBr) (by decide +kernel)) rfl (fun _ _ _ _ _ => rfl)
            (fun B st s1 H1 E f' c' hgB hr' => pe_make T.mkE GE (hr'.mono (by decide)) rfl mE bE vE (passes_call (takes_of rfl rfl rfl rfl) fun _ _ _ _ h => h) (pa_cons (pv 9) (pa_cons (pv 10) pa_nil)))) (pe_ix ix_list (pe_lst (pa_cons pe_non (pa_cons pe_str pa_nil))) (pe_callTy call_int1 (by rfl) T.int (by decide +kernel) (pa_cons (pv 6) pa_nil)) (fun _ _ => rfl)) (nomark _)) (pss_one (ps_ret pe_bl)) pss_nil))))))))))
    (pss_one (ps_ret pe_bl)))), ?_⟩
  -- the frame, the chain
  refine ⟨_, rfl, b, d, p, rfl, hB, ok, fun f ys H1 hF hk hf s1 => ?_⟩
  have to := told_of ok T.ne hF.so hk
  have hp : Parts ⟨ys, d.t, d.g, d.r⟩ G := ⟨h1, h8, hpm.trans to.pm.symm⟩
  have t1 := ok.t1
  have t3 := ok.t3
  refine ⟨rfl, _, rfl, _, rfl, rfl, rfl, f, q, _, G, rfl, .inl (s1 _ _ hR.at_), hF, fun x hx => .inl (s1 _ _ (hR.row x hx).1), hp, fun m H2 L hm hLG hC s2 => ?_⟩
  have s12 := s1.trans s2
  have hgl : L.length = G.length := by
    have := congrArg List.length hLG
    rwa [List.length_map, List.length_map] at this
  have hnd := hF.nd
  obtain ⟨fd, efd⟩ : ∃ fd, fd = (⟨ys, d.t, d.g, d.r⟩ : FrD) := ⟨_, rfl⟩
  have I2 : InB ks CF CC (tab2 Ph Pb) H2 p l cs n b q m f d fd G L := ⟨hP.same s12, hB.same s12, hR.same s12, by rw [efd]; exact ⟨hC, hF.same s2, hp.rows hLG⟩, hT.ext s12⟩
  have fdt : fd.t = d.t := by rw [efd]
  have mz : ∀ z, z ∈ membZ fd ↔ z ∈ memB d := fun z => by
    rw [efd]
    unfold membZ memB
    rw [List.mem_append, List.mem_append, to.pm.mem_iff]
  clear hP hB hR hT hC hm s1 s2 s12 hf
  refine ⟨6, rfl, by decide, by decide, for_range (n := 6) (fun i σ H' => (∃ o4 o5 o6 o7 o8 o10 o11, σ = stB p b q f m o4 o5 o6 o7 o8 o10 o11) ∧ InB ks CF CC (tab2 Ph Pb) H' p l cs (n + 6 * i) b q m f d fd G L) ⟨⟨_, _, _, _, _, _, _, rfl⟩, I2⟩ ?_ ?_⟩
  case refine_2 =>
    rintro σ H' ⟨⟨o4, o5, o6, o7, o8, o10, o11, rfl⟩, I'⟩
    exact k H' (I'.pen.mono (by omega)) I'.tb
  rintro i σ H3 hi ⟨⟨o4, o5, o6, o7, o8, o10, o11, rfl⟩, I3⟩
  -- wide
  refine ⟨_, rfl, _, rfl, p, l, cs, _, b, d, rfl, I3.pen, I3.ba, ok, by omega, fun e d' H4 ok' df he hBe P4 b4 => ?_⟩
  have I4 := I3.bp b4 P4
  clear I3 P4 b4 I2
  refine ⟨fun σ H' => ∃ (at_ : Int) (z : Str), σ = stB p b q f m (some (.int (0 + (i : Nat)))) (some (.ref e)) o6 o7 (some (.int at_)) o10 (some (.str z)) ∧ 0 ≤ at_ ∧ at_ < 9 ∧ z ∈ memB d ++ moreZ ∧ InB ks CF CC (tab2 Ph Pb) H' p l cs (n + 6 * i + 5) b q m f d fd G L ∧ BareAt H' e d' p, ?_, ?_⟩
  · refine ⟨_, rfl, p, l, cs, _, 9, rfl, I4.pen, by decide, by decide, by omega, fun at_ i' g' H5 d0 dm i0 in1 hp5 b5 => ?_⟩
    have I5 := I4.bp b5 (I4.pen.next i0 in1 hp5 b5)
    have hBe5 := hBe.but I4.pen b5
    refine ⟨_, rfl, _, rfl, b, d, p, rfl, I5.ba, ok, fun zs ml H6 hzs hz18 hml0 hml s6 => ⟨by show 4 ≤ sizeLine; decide, fun l4 hl4 => ?_⟩⟩
    have s7 := same_at (o := .lst [V.str "nothing", .str "ground", .str "power", .str "nobody"]) hl4
    have zl : (strv zs).length = zs.length := List.length_map _
    refine ⟨ml, l4, _, _, rfl, rfl, s7 _ _ hml, upd_same, Nat.le_trans (show _ ≤ 22 by rw [zl]; simp only [List.length_cons, List.length_nil]; omega) (by decide), fun c4 hc4 => ?_⟩
    have s8 := same_at (o := .lst (strv zs ++ [V.str "nothing", .str "ground", .str "power", .str "nobody"])) hc4
    have s68 := s6.trans (s7.trans s8)
    have I8 := I5.same s68
    have hBe8 := hBe5.same s68
    refine ⟨p, l, c4, cs, _, _, rfl, I8.pen, upd_same, nep (I5.same (s6.trans s7)).pen hc4, ?_, ?_, by omega, fun j x H9 hx P9 b9 => ⟨by show 2 ≤ sizeLine; decide, fun tp htp => ?_⟩⟩
    · rw [List.length_append]; simp only [List.length_cons, List.length_nil]; omega
    · rw [List.length_append, zl]; simp only [List.length_cons, List.length_nil]; omega
    have s10 := same_at (o := .tup [V.int at_, x]) htp
    have I9 := I8.bp b9 P9
    have hBe9 := hBe8.but I8.pen b9
    obtain ⟨z, rfl, hz⟩ : ∃ z, x = .str z ∧ z ∈ memB d ++ moreZ := by
      have e : strv zs ++ [V.str "nothing", .str "ground", .str "power", .str "nobody"] = strv (zs ++ moreZ) := by
        unfold strv
        rw [List.map_append]
        rfl
      rw [e] at hx
      obtain ⟨z, h1, h2⟩ := List.mem_map.mp (List.mem_of_getElem? hx)
      refine ⟨z, h2.symm, ?_⟩
      rcases List.mem_append.mp h1 with h1 | h1
      · exact List.mem_append_left _ (hzs.mem_iff.mp h1)
      · exact List.mem_append_right _ h1
    exact ⟨tp, _, rfl, SqT.of upd_same, rfl, _, _, rfl, _, _, rfl, rfl, at_, z, rfl, d0, dm, hz, (I9.same s10).mono (by omega), hBe9.same s10⟩
  rintro σ H5 ⟨at_, z, rfl, a0, a9, hz, I5, hBe5⟩
  clear I4 hBe he
  obtain ⟨zlen, znm⟩ := tag_ok ok hz
  -- is it another one
  refine ⟨fun σ H' => ∃ io : Bool, σ = stB p b q f m (some (.int (0 + (i : Nat)))) (some (.ref e)) (some (.bl io)) o7 (some (.int at_)) o10 (some (.str z)) ∧ InB ks CF CC (tab2 Ph Pb) H' p l cs (n + 6 * (i + 1)) b q m f d fd G L ∧ BareAt H' e d' p, ?_, ?_⟩
  · refine ⟨_, rfl, p, l, cs, _, 4, rfl, I5.pen, by decide, by decide, by omega, fun dg i' g' H6 d0 dm i0 in1 hp6 b6 => ?_⟩
    exact ⟨rfl, _, rfl, (I5.bp b6 (I5.pen.next i0 in1 hp6 b6)).mono (by omega), hBe5.but I5.pen b6⟩
  rintro σ H6 ⟨io, rfl, I6, hBe6⟩
  clear I5 hBe5
  -- what is due
  obtain ⟨nm, enm⟩ : ∃ nm, nm = huNm fd z := ⟨_, rfl⟩
  refine ⟨fun σ H' => σ = stB p b q f m (some (.int (0 + (i : Nat)))) (some (.ref e)) (some (.bl io)) (some (if nm then V.non else .str "hurt name")) (some (.int at_)) o10 (some (.str z)) ∧ Same H6 H', ?_, ?_⟩
  · refine ⟨_, rfl, _, rfl, b, d, p, rfl, I6.ba, ok, fun zs ml H7 hzs hz18 hml0 hml s7 => ⟨by show 1 ≤ sizeLine; decide, fun l4 hl4 => ?_⟩⟩
    have s8 := same_at (o := .lst [V.str "nothing"]) hl4
    have zl : (strv zs).length = zs.length := List.length_map _
    have ez : strv zs ++ [V.str "nothing"] = strv (zs ++ nothZ) := by
      unfold strv
      rw [List.map_append]
      rfl
    refine ⟨ml, l4, _, _, rfl, rfl, s8 _ _ hml, upd_same, Nat.le_trans (show _ ≤ 19 by rw [zl]; simp only [List.length_cons, List.length_nil]; omega) (by decide), fun c4 hc4 => ?_⟩
    have s9 := same_at (o := .lst (strv zs ++ [V.str "nothing"])) hc4
    refine ⟨c4, strv (zs ++ nothZ), rfl, .inl (SqL.of (by rw [upd_same, ez])), rfl, flat_strs _, _, rfl, ?_⟩
    have e1 : (if (false : Bool) = true then !inV (V.str z) (strv (zs ++ nothZ)) else inV (V.str z) (strv (zs ++ nothZ))) = nm := by
      refine (inV_strs (zs ++ nothZ) z).trans ?_
      rw [enm]
      unfold huNm
      refine Bool.eq_iff_iff.mpr ?_
      rw [Bool.or_eq_true, decide_eq_true_eq, decide_eq_true_eq, decide_eq_true_eq, List.mem_append, List.mem_singleton, mz, hzs.mem_iff]
      exact Or.comm
    rw [e1]
    have s69 := s7.trans (s8.trans s9)
    cases nm with
    | true => exact iteT ⟨rfl, s69⟩
    | false => exact iteF ⟨rfl, s69⟩
  rintro σ H7 ⟨rfl, s67⟩
  have I7 := I6.same s67
  have hBe7 := hBe6.same s67
  clear I6 hBe6 s67
  obtain ⟨lt, elt⟩ : ∃ lt, lt = decide ((L.length : Int) < at_) := ⟨_, rfl⟩
  refine ⟨fun σ H' => σ = stB p b q f m (some (.int (0 + (i : Nat)))) (some (.ref e)) (some (.bl io)) (some (toldH (rBe io lt nm))) (some (.int at_)) o10 (some (.str z)) ∧ H' = H7, ?_, ?_⟩
  · have eF : ("board frame" : Str) = ("board " : Str) ++ ("frame" : Str) := by decide +kernel
    have eL : ("hurt link" : Str) = ("hurt " : Str) ++ ("link" : Str) := by decide +kernel
    have eN : ("hurt name" : Str) = ("hurt " : Str) ++ ("name" : Str) := by decide +kernel
    refine ⟨_, rfl, _, rfl, ?_⟩
    cases io with
    | true => exact iteT ⟨by rw [eF]; rfl, rfl⟩
    | false =>
      refine iteF ⟨_, rfl, _, rfl, q, _, rfl, .inl (SqL.of I7.ro.at_), _, _, rfl, rfl, _, rfl, ?_⟩
      rw [refsB_len, ← hgl, ← elt]
      cases lt with
      | true => exact iteT ⟨by rw [eL]; rfl, rfl⟩
      | false =>
        refine iteF ⟨_, rfl, ?_, rfl⟩
        cases nm with
        | true => rfl
        | false => rw [eN]; rfl
  rintro σ H8 ⟨rfl, rfl⟩
  -- the board
  refine ⟨fun σ H' => ∃ (sb g2 : Addr) (e2 : FrD), σ = stB p b q f m (some (.int (0 + (i : Nat)))) (some (.ref e)) (some (.bl io)) (some (toldH (rBe io lt nm))) (some (.int at_)) (some (.ref sb)) (some (.str z)) ∧ InB ks CF CC (tab2 Ph Pb) H' p l cs (n + 6 * (i + 1)) b q m f d fd G L ∧ BdAt H' sb CB g2 ∧ FrIs ks CF H' g2 e2 ∧ eqFr e2 fd = !io, ?_, ?_⟩
  · have mk : ∀ (bb : Addr) (dd : BareD) (H9 : Hp), Same H8 H9 → dd.ok → BareAt H9 bb dd p → (∀ ys2 : List LegR, KindsOf ks ys2 dd.ds dd.ls → eqFr ⟨ys2, dd.t, dd.g, dd.r⟩ fd = !io) → ∀ (Qn : VK), (∀ sb g2 e2 H', Same H8 H' → BdAt H' sb CB g2 → FrIs ks CF H' g2 e2 → eqFr e2 fd = (!io) → Qn (.ref sb) H') →
        spFrm ks CF [.ref bb] H9 (fun v H10 => ∀ x dx, H10 x = none → H10 dx = none → dx ≠ x → spBoS K ks CF CB [.ref x, v] (upd (upd H10 dx (.own x)) x (.ins CB dx [])) (fun v2 H2 => v2 = .non ∧ Qn (.ref x) H2) E0) E0 := fun bb dd H9 s9 okd hBd hq Qn kq => by
      refine ⟨bb, dd, p, rfl, hBd, okd, fun g2 ys2 H10 hF2 hk2 hg2 s10 x dx hx hdx hne => ?_⟩
      have to2 := told_of okd T.ne hF2.so hk2
      have mn : (membZ ⟨ys2, dd.t, dd.g, dd.r⟩).Nodup := by
        have : (membZ ⟨ys2, dd.t, dd.g, dd.r⟩).Perm (memB dd) := to2.pm.append_right _
        exact this.nodup_iff.mpr (memB_nd okd)
      exact mk_bo (Bl := []) (part_nil hF2 mn) hx hdx hne fun H11 L2 _ hB2 s11 => ⟨rfl, kq x g2 _ H11 (s9.trans (s10.trans s11)) hB2.bd (hF2.same s11) (hq ys2 hk2)⟩
    refine ⟨_, rfl, _, rfl, by show 2 ≤ sizeLine; decide, fun v hv => ?_⟩
    have sv := same_at (o := .lst [V.ref b, .ref e]) hv
    obtain ⟨Qn, eQn⟩ : ∃ Qn : VK, Qn = fun v H' => ∃ (sb' g2' : Addr) (e2' : FrD), stB p b q f m (some (.int (0 + (i : Nat)))) (some (.ref e)) (some (.bl io)) (some (toldH (rBe io lt nm))) (some (.int at_)) (some v) (some (.str z)) = stB p b q f m (some (.int (0 + (i : Nat)))) (some (.ref e)) (some (.bl io)) (some (toldH (rBe io lt nm))) (some (.int at_)) (some (.ref sb')) (some (.str z)) ∧ InB ks CF CC (tab2 Ph Pb) H' p l cs (n + 6 * (i + 1)) b q m f d fd G L ∧ BdAt H' sb' CB g2' ∧ FrIs ks CF H' g2' e2' ∧ eqFr e2' fd = !io := ⟨_, rfl⟩
    have fin : ∀ sb g2 e2 H', Same H8 H' → BdAt H' sb CB g2 → FrIs ks CF H' g2 e2 → eqFr e2 fd = (!io) → Qn (.ref sb) H' := fun sb g2 e2 H' s h1 h2 h3 => by
      rw [eQn]
      exact ⟨sb, g2, e2, rfl, I7.same s, h1, h2, h3⟩
    cases io with
    | false =>
      refine ⟨_, rfl, .inr ⟨_, rfl, v, _, _, _, rfl, rfl, SqL.of upd_same, atI_nat (j := 0) rfl, ?_⟩⟩
      have R := mk b d _ sv ok (I7.ba.same sv) (fun ys2 hk2 => by rw [efd]; exact eqFr_self rfl rfl rfl (eqLegs_of hk2 hk)) Qn fin
      rw [eQn] at R
      exact R
    | true =>
      refine ⟨_, rfl, .inr ⟨_, rfl, v, _, _, _, rfl, rfl, SqL.of upd_same, atI_nat (j := 1) rfl, ?_⟩⟩
      have R := mk e d' _ sv ok' (hBe7.same sv) (fun ys2 hk2 => by rw [efd]; exact diff_fr T.ne hk hk2 hnd df) Qn fin
      rw [eQn] at R
      exact R
  rintro σ H9 ⟨sb, g2, e2, rfl, I9, hbd, hF2, hq⟩
  clear I7 hBe7
  have scv : scal (toldH (rBe io lt nm)) (toldH (rBe io lt nm)) = true := by cases io <;> cases lt <;> cases nm <;> rfl
  have hint : IntIs K H9 (.int at_) 0 8 true := .inl ⟨_, rfl, by rw [decide_eq_true a0, decide_eq_true (show at_ ≤ 8 by omega)]; rfl⟩
  have stv : ∀ {x dx : Addr} {H0 : Hp} {ob : HO}, H0 x = none → H0 dx = none → Same H0 (upd (upd H0 dx (.own x)) x ob) := fun hx hdx b u e => by
    rw [upd_ne (ne_of_none e hx), upd_ne (ne_of_none e hdx)]
    exact e
  -- with the hurt link
  refine ⟨fun σ H' => σ = stB p b q f m (some (.int (0 + (i : Nat)))) (some (.ref e)) (some (.bl io)) (some (toldH (rBe io lt nm))) (some (.int at_)) (some (.ref sb)) (some (.str z)) ∧ ExtN H9 H' ∧ Tabs (tab2 Ph Pb) H', ?_, ?_⟩
  · refine hr_rd (r := rBe io lt nm) I9.tb (fun b z e => ?_) (fun H10 x10 T10 Qn E kj ki kn => ?_) fun H10 x10 T10 => ?_
    · cases io <;> cases lt <;> cases nm <;> cases e <;> decide +kernel
    · refine ⟨_, rfl, _, rfl, fun o dx ho hdx hne => ?_⟩
      have sC := stv (ob := .ins CH dx []) ho hdx
      refine ⟨o, dx, _, _, true, true, rfl, upd_same, hint.ext (x10.trans (.of sC)), .inl ⟨z, rfl, zlen, znm.symm⟩, (fun e => by cases e), (fun _ e => by cases e), fun _ _ H11 w1 w2 => ⟨rfl, ?_⟩⟩
      have s11 : Same H10 H11 := fun b u e => w2 _ _ (ne_of_none e ho) (sC _ _ e)
      have hu11 : HuAt H11 o CH at_ z := ⟨dx, w1, a0, by omega, zlen⟩
      refine ⟨_, rfl, _, rfl, rfl, fun x dx' hx hdx' hne' => ⟨rfl, ?_⟩⟩
      have sD := stv (ob := .ins CE dx' []) hx hdx'
      have sE := s11.trans sD
      have xE := x10.trans (.of sE)
      have hv : HuV (upd (upd H11 dx' (.own x)) x (.ins CE dx' [])) CH fd L.length (.ref o) (if lt then some "link" else if nm then none else some "name") := by
        have hh := hu11.same sD
        cases lt with
        | true => exact .link o at_ z hh (of_decide_eq_true elt.symm)
        | false =>
          have ge := of_decide_eq_false elt.symm
          cases nm with
          | true => exact .ok o at_ z hh ge enm.symm
          | false => exact .name o at_ z hh ge enm.symm
      refine ⟨x, dx', m, sb, f, g2, .ref o, fd, e2, L, _, rfl, upd_same, I9.ch.ext xE, by omega, by omega, hbd.ext xE, hF2.ext xE, hv, fun e3 dd H' q => ?_, fun e3 z' e4 dd H' q => ?_, fun e3 e4 H' fs v1 v2 => ⟨rfl, ?_⟩⟩
      · refine kj "frame" ?_ dd H' (errH_of q sE)
        rw [hq] at e3
        cases io with
        | true => rfl
        | false => cases e3
      · refine ki z' ?_ dd H' (errH_of q sE)
        rw [hq] at e3
        cases io with
        | true => cases e3
        | false =>
          cases lt with
          | true => rw [← Option.some.inj e4]; rfl
          | false =>
            cases nm with
            | true => cases e4
            | false => rw [← Option.some.inj e4]; rfl
      · refine kn ?_ _ _ fun b u e => v2 _ _ (ne_of_none (s11 _ _ e) hx) (sE _ _ e)
        rw [hq] at e3
        cases io with
        | true => cases e3
        | false =>
          cases lt with
          | true => cases e4
          | false =>
            cases nm with
            | true => rfl
            | false => cases e4
    · refine ⟨_, rfl, scv, _, rfl, ?_⟩
      rw [decide_eq_true rfl]
      exact iteF ⟨rfl, x10, T10⟩
  rintro σ H10 ⟨rfl, x10, T10⟩
  have I10 := I9.ext x10 T10
  have hbd10 := hbd.ext x10
  have hF10 := hF2.ext x10
  clear I9 hbd hF2 x10 T10 hint
  -- without one
  refine hr_rd (r := if io then some (true, "frame") else none) I10.tb (fun b z e => ?_) (fun H11 x11 T11 Qn E kj ki kn => ?_) fun H11 x11 T11 => ?_
  · cases io <;> cases e <;> decide +kernel
  · refine ⟨_, rfl, _, rfl, fun x dx hx hdx hne => ?_⟩
    have sD := stv (ob := .ins CE dx []) hx hdx
    have xE := x11.trans (.of sD)
    refine ⟨x, dx, m, sb, f, g2, .non, fd, e2, L, none, rfl, upd_same, I10.ch.ext xE, by omega, by omega, hbd10.ext xE, hF10.ext xE, .non, fun e3 dd H' q => ?_, (fun e3 z' e4 => by cases e4), fun e3 e4 H' fs v1 v2 => ⟨rfl, ?_⟩⟩
    · refine kj "frame" ?_ dd H' (errH_of q sD)
      rw [hq] at e3
      cases io with
      | true => rfl
      | false => cases e3
    · refine kn ?_ _ _ fun b u e => v2 _ _ (ne_of_none e hx) (sD _ _ e)
      rw [hq] at e3
      cases io with
      | true => cases e3
      | false => rfl
  have I11 := I10.ext x11 T11
  have eF : ("board frame" : Str) = ("board " : Str) ++ ("frame" : Str) := by decide +kernel
  refine ⟨by show 2 ≤ sizeLine; decide, fun v hv => ?_⟩
  have sv := same_at (o := .lst [V.non, .str "board frame"]) hv
  cases io with
  | false =>
    refine ⟨_, rfl, .inr ⟨_, rfl, v, _, _, _, rfl, rfl, SqL.of upd_same, atI_nat (j := 0) rfl, rfl, _, rfl, ?_⟩⟩
    rw [decide_eq_true (show toldH (if (false : Bool) = true then some (true, "frame") else none) = V.non from rfl)]
    exact iteF ⟨⟨_, _, _, _, _, _, _, rfl⟩, I11.same sv⟩
  | true =>
    refine ⟨_, rfl, .inr ⟨_, rfl, v, _, _, _, rfl, rfl, SqL.of upd_same, atI_nat (j := 1) rfl, rfl, _, rfl, ?_⟩⟩
    rw [decide_eq_true (show toldH (if (true : Bool) = true then some (true, "frame") else none) = V.str "board frame" by rw [eF]; rfl)]
    exact iteF ⟨⟨_, _, _, _, _, _, _, rfl⟩, I11.same sv⟩
end
end Sj
/-! The law's def, proved for the one place where the row calls it (so that what is shown around is known: nothing). -/
namespace Sup
open PySem PySem.Spec PyProof.Rows L2
abbrev Sp1 := V → Hp → VK → Prop
/-- called there with one value, the def keeps its promise -/
def AtCall (P : Program) (w : World) (K : PySem.W.Frag) (mg : Str → Option Value) (base : Heap) (f : Addr) (sp : Sp1) : Prop :=
  ∀ (s : Shared) (H : Hp) (u : Value) (v : V) (Q : VK), Env0 P w K mg base callerA [] s H → RelV v u → sp v H Q → codeAny (model P w) callerA (.call (.ref f) ⟨[u], []⟩) (CR CX0 [] P w H s Q E0) s
section
variable {P : Program} {w : World} {K : PySem.W.Frag} {mg mb : Str → Option Value} {base : Heap}
theorem at_call {nm q x : Str} {st : Stmt} {f : Addr} {fd : FuncData} {N : List Str} {k : Nat} {sp : Sp1} (F : Fun K nm q st f fd) (S : FnScope N [x] (defScope st)) (room : Room (k + 1) callerA) (hb : ∀ (s : Shared) (u : Value), BindsTo s fd ⟨[u], []⟩ [(x, u)])
    (body : ∀ (cdv : Value) (s : Shared) (H : Hp) (v : V) (Q : VK), Room k (callerA.deeper (envOfC q (defScope st) s.heap.objs.size f cdv)) → sp v H Q →
      ∃ t, PSs (cxOf CX0 P w K mg base N q (defScope st) f cdv callerA [] s H E0).nox (defBody st) t ∧ t { nx := fun _ H' => Q .non H', rt := Q } (start N [v]) H) : AtCall P w K mg base f sp := by
  obtain ⟨oc, od, kV, doc, pm, an, cdv, ct, osl, rfl, lk, hcd⟩ := F.ex
  intro s H u v Q env0 ru hsp
  have stand : ∀ b o, base.get? b = some o → s.heap.get? b = some o := fun b o z => (env0.bs b o z).1
  have inK := env0.mod.kin.keeps stand
  have kinds : ∀ y ∈ [x].zip [u], (defScope st).names.lookup y.1 = some .local ∨ ((defScope st).names.lookup y.1 = some .cell ∧ ((cellsFrom (s.heap.objs.size + 1) (defScope st).names []).lookup y.1).isSome = true) := by
    intro y hy
    have ey : y = (x, u) := by simpa using hy
    subst ey
    exact (S.par x (by simp)).imp id fun c => ⟨c, PySem.W.cellsFrom_some _ _ _ (.inl c)⟩
  apply codeAny_call_function room.depth (inK _ _ lk) rfl S.co S.gen rfl (PySem.W.codeRec_of inK hcd)
  apply hb s u
  apply wpAny_newFunctionEnv_cells S.kind kinds
  intro env he s1 inC
  subst he
  constructor
  · exact (env0.mod.nolimit.keeps stand).keeps inC.toInCall.keep
  · obtain ⟨t, ht, hq⟩ := body cdv s H v Q (room.deeper _) hsp
    have J := inv_start (CX := CX0) (E := E0) (P := P) (w := w) (us := [u]) (vs := [v]) S room.hd env0 rfl (.cons ru .nil) inC
    apply codeAny_func
    apply wpAny_mono (ht.nox.run [] s1 (start N [v]) H _ J hq) _ (fun _ _ z => z)
    intro fl s' hs
    have done : ∀ {σ' : L2.St} {H' : Hp} {y : V} {z : Value}, Inv (cxOf CX0 P w K mg base N q (defScope st) f cdv callerA [] s H E0) [] σ' H' s' → L2.RelV y z → Q y H' → CE [] P w H s Q z s' := by
      intro σ' H' y z I ry qy
      exact ⟨y, H', I.os, I.bare, I.base, I.hok, ry, qy⟩
    match fl, hs with
    | .ret _, ⟨_, _, _, I, ry, qy⟩ => exact done I ry qy
    | .next, ⟨_, _, I, qy⟩ => exact done (y := V.non) (z := Value.none) I rfl qy
    | .brk, ⟨_, _, _, z⟩ => exact z.elim
    | .cont, ⟨_, _, _, z⟩ => exact z.elim
end
end Sup
/-! The law's def at the place where the row calls it, where its code object has a table (it makes lambdas). -/
namespace Sup
open PySem PySem.Spec PyProof.Rows L2 LamX
end Sup
/-! The same where several code objects have tables (the law's own and those of defs that it calls). -/
namespace Sup
open PySem PySem.Spec PyProof.Rows L2 LamX
section
variable {P : Program} {w : World} {K : PySem.W.Frag} {mg mb : Str → Option Value}
theorem law_runsTs {f a : Addr} {Ts : List Addr} {sp : Sp1} {s1 : Shared} {vs : List Value} {ns : List Int} (inK : K.In s1.heap) (gl : s1.heap.Ns mainGlobals mg) (bl : s1.heap.Ns builtinsNs mb) (bb : ∀ x : Str, x ≠ "__name__" → mb x = bootBuiltins x) (lim : s1.heap.NoLimit)
    (nogen : s1.gens = #[]) (ht : ∀ Pt ∈ Ts, s1.heap.get? Pt = some { cls := .none, data := .fields #[] }) (nt : ∀ Pt ∈ Ts, K.lookup Pt = none) (hc : ∀ Pt ∈ Ts, ∃ c, PySem.W.CodeHd s1.heap c Pt)
    (bm : ∃ (m : Addr) (o : Obj), mg "__builtins__" = some (.ref m) ∧ m ≠ builtinsNs ∧ s1.heap.get? m = some o ∧ o.cls = .type "module" ∧ o.dict = some builtinsNs ∧ o.data = .plain)
    (ha : s1.heap.get? a = some { cls := .type "list", data := .seq vs.toArray }) (hi : IntsAre vs ns) (hl : ns.length ≤ sizeLine)
    (go : ∀ base : Heap, K.In base → base.Ns mainGlobals mg → (∀ Pt ∈ Ts, ∀ c, PySem.W.CodeHd s1.heap c Pt → TabB base mg c Pt) → AtCall P w K mg base f sp) (want : ∀ H : Hp, (∀ Pt ∈ Ts, H Pt = some (.tbl #[])) → SqL K H a (ns.map V.int) → sp (.ref a) H fun v _ => v = .bl true) :
    codeAny (model P w) callerA (.call (.ref f) ⟨[.ref a], []⟩) (fun r s' => r = .ok (.ret (.bool true)) ∧ OldK s1.heap s'.heap ∧ s'.os = s1.os ∧ AllBare s'.gens) s1 := by
  have rel := vals_ints hi
  have szV : vs.length ≤ sizeLine := hi.length ▸ hl
  have aPt : a ∉ Ts := fun z => by
    rw [ht a z] at ha
    have := congrArg Obj.data (Option.some.inj ha)
    cases this
  have main : ∀ H : Hp, (∀ Pt ∈ Ts, H Pt = some (.tbl #[])) → (∀ b u, H b = some u → b ∈ Ts ∨ (b = a ∧ K.lookup a = none ∧ ∃ o xs, u = .frz o (.lst xs))) → SqL K H a (ns.map V.int) → HOk P w H s1.heap → codeAny (model P w) callerA (.call (.ref f) ⟨[.ref a], []⟩)
      (fun r s' => r = .ok (.ret (.bool true)) ∧ OldK s1.heap s'.heap ∧ s'.os = s1.os ∧ AllBare s'.gens) s1 := by
    intro H hPt only hS hok
    have keepB : ∀ {b : Addr} {o : Obj}, s1.heap.get? b = some o → (∀ xs n, o.data ≠ .seq xs n) → o.data ≠ .fields #[] → (hidT s1.heap H).get? b = some o := by
      intro b o e no nf
      apply hidT_get e
      cases z : H b with
      | none => rfl
      | some u =>
        rcases only b u z with eb | ⟨eb, _⟩
        · rw [ht b eb] at e
          exact absurd rfl (by cases e; exact nf)
        · rw [eb, ha] at e
          exact absurd rfl (by cases e; exact no _ _)
    have keepK : K.In (hidT s1.heap H) := by
      intro b o e
      apply hidT_get (inK b o e)
      cases z : H b with
      | none => rfl
      | some u =>
        rcases only b u z with eb | ⟨eb, nk, _⟩
        · rw [nt b eb] at e
          cases e
        · rw [eb, nk] at e
          cases e
    have keepN : ∀ {b : Addr} {m : Str → Option Value}, s1.heap.Ns b m → (hidT s1.heap H).Ns b m := by
      rintro b m ⟨o, es, ep, e, d, r⟩
      exact ⟨o, es, ep, keepB e (fun xs n z => by rw [d] at z; cases z) (fun z => by rw [d] at z; cases z), d, r⟩
    have mod : Mod K mg (hidT s1.heap H) := by
      refine ⟨keepK, keepN gl, ⟨mb, keepN bl, bb⟩, ?_⟩
      obtain ⟨mc, n1, n2⟩ := lim
      exact ⟨mc, keepN n1, n2⟩
    have tab : ∀ Pt ∈ Ts, ∀ c, PySem.W.CodeHd s1.heap c Pt → TabB (hidT s1.heap H) mg c Pt := fun Pt hPt' c hc => by
      have ht := ht Pt hPt'
      refine ⟨?_, ?_, fun z => ?_⟩
      · obtain ⟨o, us, file, tf, fl, tg, x, text, tt, q, r1, r2, r3, rest⟩ := hc
        refine ⟨o, us, file, tf, fl, tg, x, text, tt, keepB q (fun xs n z => ?_) (fun z => ?_), r1, r2, r3, rest⟩
        · rw [r2] at z
          cases z
        · rw [r2] at z
          cases z
          simp at r3
      · obtain ⟨m, o, b1, b2, b3, b4, b5, b6⟩ := bm
        refine ⟨m, o, b1, b2, fun z => ?_, fun z => ?_, keepB b3 (fun xs n z => ?_) (fun z => ?_), b4, b5, b6⟩
        · obtain ⟨og, es, ep, e, d, _⟩ := gl
          rw [z, e] at b3
          rw [← Option.some.inj b3, d] at b6
          cases b6
        · rw [z, ht] at b3
          rw [← Option.some.inj b3] at b6
          cases b6
        · rw [b6] at z
          cases z
        · rw [b6] at z
          cases z
      · obtain ⟨og, es, ep, e, d, _⟩ := gl
        rw [z, ht] at e
        rw [← Option.some.inj e] at d
        cases d
    have env : Env0 P w K mg (hidT s1.heap H) callerA [] s1 H := by
      refine ⟨rfl, mod, fun b o e => of_hidT e, Nat.le_of_eq (hidT_size _ _), trivial, ?_, hok, .of_eq nogen⟩
      intro b hb
      cases hb
    apply codeAny_mono (go _ keepK (keepN gl) tab s1 H (.ref a) (.ref a) _ env rfl (want H hPt hS))
    intro r s' h
    match r, h with
    | .ok (.ret u), ⟨v, H', os, bare, un, hok', ru, q⟩ =>
      have ev : v = .bl true := q
      subst ev
      obtain rfl : u = Value.bool true := ru
      have grown : ∀ Pt ∈ Ts, ∃ more, s'.heap.get? Pt = some { cls := .none, data := .fields (#[] ++ more) } := fun Pt hp => by
        obtain ⟨more, hm⟩ := un.tbls Pt #[] (hPt Pt hp)
        exact ⟨more, hok' Pt _ hm⟩
      have stays : ∀ b o, b ∉ Ts → s1.heap.get? b = some o → s'.heap.get? b = some o := by
        intro b o nb e
        cases z : H b with
        | none => exact un.keep b o e z (fun k => by cases k) (fun k => by cases k)
        | some u =>
          obtain ⟨_, _, ob, xs, eu⟩ := (only b u z).resolve_left nb
          subst eu
          have here := (hok b _ z).1
          have there := (hok' b _ (un.frzs b ob _ z)).1
          rw [e] at here
          cases here
          exact there
      refine ⟨rfl, ⟨fun b o e => ?_, fun b o e => ?_⟩, os, bare⟩
      · by_cases hb : b ∈ Ts
        · obtain ⟨more, gr⟩ := grown b hb
          obtain ⟨c, hcc⟩ := hc b hb
          rw [ht b hb] at e
          cases e
          exact .inr (.inl ⟨(hcc.tab (ht b hb)).isCodeTable, rfl, #[], more, rfl, gr⟩)
        · exact .inl (stays b o hb e)
      · by_cases hb : b ∈ Ts
        · obtain ⟨more, gr⟩ := grown b hb
          exact ⟨_, gr⟩
        · exact ⟨o, stays b o hb e⟩
  cases known : K.lookup a with
  | some o =>
    have eo := inK a o known
    rw [ha] at eo
    cases eo
    apply main (fun b => if b ∈ Ts then some (.tbl #[]) else none) (fun Pt hp => if_pos hp)
    · intro b u z
      by_cases hb : b ∈ Ts
      · exact .inl hb
      · rw [if_neg hb] at z
        cases z
    · exact .inr ⟨_, vs.toArray, _, known, rfl, rfl, rfl, by simpa using szV, by simpa using rel⟩
    · intro b u z
      dsimp only at z
      by_cases hb : b ∈ Ts
      · rw [if_pos hb] at z
        cases z
        exact ht b hb
      · rw [if_neg hb] at z
        cases z
  | none =>
    apply main (fun b => if b ∈ Ts then some (.tbl #[]) else if b = a then some (.frz { cls := .type "list", data := .seq vs.toArray } (.lst (ns.map V.int))) else none) (fun Pt hp => if_pos hp)
    · intro b u z
      by_cases h1 : b ∈ Ts
      · exact .inl h1
      · rw [if_neg h1] at z
        by_cases hb : b = a
        · rw [if_pos hb] at z
          cases z
          exact .inr ⟨hb, known, _, _, rfl⟩
        · rw [if_neg hb] at z
          cases z
    · exact .inl (.inr ⟨{ cls := .type "list", data := .seq vs.toArray }, by dsimp only; rw [if_neg aPt, if_pos rfl]⟩)
    · intro b u z
      dsimp only at z
      by_cases h1 : b ∈ Ts
      · rw [if_pos h1] at z
        cases z
        exact ht b h1
      · rw [if_neg h1] at z
        by_cases hb : b = a
        · rw [if_pos hb] at z
          cases z
          subst hb
          exact ⟨ha, by rw [List.length_map]; exact hl, vs, _, rel, ha⟩
        · rw [if_neg hb] at z
          cases z
/-- the goal that k_head leaves, from AtCall, where several defs have tables: Ts in the order that sp wants -/
theorem walk_atTs {l : PySem.W.OpenLaw} {n m : Nat} {q : Program} {loose nms : List Str} {XP : (Str → Option Value) → Heap → Prop} {YP : World → Heap → Prop} {d : DefRec} {K : Params → PySem.W.Frag} {sp : PySem.W.Frag → List Addr → Sp1}
    (hn : l.most = some n) (hz : n ≤ sizeLine) (hdf : d.params.defaults = []) (hrec : ∀ nm ∈ nms, ((recsOf q).any fun e => e.name == nm) = true) (hY : ∀ (w : World) (h : Heap), YP w h → (K w.params).In h)
    (go : ∀ (w : World) (mg : Str → Option Value) (f : Addr) (h : Heap), (K w.params).In h → h.Ns mainGlobals mg → mg d.name = some (.ref f) → (∀ nm ∈ nms, ∀ g, mg nm = some (.ref g) → OwnTab (K w.params) g h) →
      ∃ Ts : List Addr, Ts.length = m ∧ (∀ Pt ∈ Ts, h.get? Pt = some { cls := .none, data := .fields #[] }) ∧ (∀ Pt ∈ Ts, (K w.params).lookup Pt = none) ∧ (∀ Pt ∈ Ts, ∃ c, PySem.W.CodeHd h c Pt) ∧ ∀ base : Heap, (K w.params).In base → base.Ns mainGlobals mg → (∀ Pt ∈ Ts, ∀ c, PySem.W.CodeHd h c Pt → TabB base mg c Pt) → AtCall l.prog w (K w.params) mg base f (sp (K w.params) Ts))
    (want : ∀ (K : PySem.W.Frag) (Ts : List Addr) (H : Hp) (a : Addr) (ns : List Int), Ts.length = m → ns.length ≤ n → (∀ Pt ∈ Ts, H Pt = some (.tbl #[])) → SqL K H a (ns.map V.int) → sp K Ts (.ref a) H fun v _ => v = .bl true) :
    PySem.W.WalkO q loose XP YP l.row.toRowW d [] (fun f vs => PySem.call f vs) := by
  apply Att.attach_callB hn hdf
  intro w _ s1 mg mb f _ _ _ _ a vs ns G Y _ _ _ hmg hobj hints hlen _ hg
  have inK := hY w _ Y
  have own : ∀ nm ∈ nms, ∀ g, mg nm = some (.ref g) → OwnTab (K w.params) g s1.heap := by
    intro nm hnm g hmg c Pt o1 fd e dd us sl q1 q2 q3 q4 q5
    obtain ⟨r, mem, same⟩ := List.any_eq_true.mp (hrec nm hnm)
    obtain ⟨f2, o2, fd2, c2, P2, w1, w2, w3, w4, _, ⟨⟨o3, us3, w5, _, w6, w7⟩, w8⟩⟩ := G.T.tab r mem
    have nm' : r.name = nm := beq_iff_eq.mp same
    rw [nm'] at w1
    obtain rfl : g = f2 := by
      have := hmg.symm.trans w1
      cases this
      rfl
    obtain rfl : o1 = o2 := Option.some.inj ((inK _ _ q1).symm.trans w2)
    obtain rfl : fd = fd2 := by
      have := q2.symm.trans w3
      cases this
      rfl
    obtain rfl : c = c2 := by
      have := q3.symm.trans w4
      cases this
      rfl
    have e3 := Option.some.inj ((inK _ _ q4).symm.trans w5)
    subst e3
    cases w6
    obtain rfl : Pt = P2 := by
      have := q5.symm.trans w7
      cases this
      rfl
    exact w8
  obtain ⟨Ts, h0, h1, h2, h3, h4⟩ := go w mg f _ inK G.T.g hmg own
  exact law_runsTs inK G.T.g G.T.b G.T.builtins G.T.nolimit hg h1 h2 h3 G.T.bmain hobj hints (Nat.le_trans hlen hz) h4 fun H hP hS => want _ Ts H a ns h0 hlen hP hS
end
end Sup
namespace Sj
open PySem L2 Sup StK Own Shw Exg Grd KepE LamX
open NdefX (NF NScope ncx envF startF nscope_by)
open C8 (pss_cut tCut)
/-! k67: InvalidBoard, InvalidHurt; the law -/
abbrev sIvB : Stmt := inClass (top 5) 0
abbrev sIvH : Stmt := inClass (top 7) 0
section
variable {P : Program} {w : World} {K : PySem.W.Frag} {mg : Str → Option Value} {base : Heap}
theorem ok_ivb {f c cc C : Addr} {fd : FuncData} (F : FunS P K "__init__" "InvalidBoard.__init__" sIvB f fd c cc C) (T : ExT P K mg C "reason") : FnOk P w K mg base CX0 1 f fd ["self", "reason"] (spInv K C) := by
  refine fn_super F scInv (fun vs H Q E h => ?_) (fun A outer s H vs Q E hr h s1 I => ?_)
  · obtain ⟨a, z, rfl, _⟩ := h
    rfl
  · obtain ⟨a, z, rfl, hz, ha, k⟩ := h
    refine super_exc (me := "self") (x := a) (C := C) (atS_of F rfl rfl rfl rfl ⟨_, rfl, rfl⟩) T.sup T.oex rfl T.hm T.hB T.hs
      (pa_cons (pe_joined (.cons pe_str (.cons (pe_fmtR (pv 1)) .nil))) pa_nil) (pss_one (ps_ost (pv 0) (pv 1))) I rfl ha ?_ rfl rfl rfl rfl rfl
    refine ⟨_, rfl, by decide +kernel, _, rfl, .inl ⟨z, rfl, Nat.le_trans hz (by decide), _, rfl, ?_, by show 1 ≤ 1000; decide, ha, ?_⟩⟩
    · have e1 : ((Str.empty ++ ("invalid board: " : Str)) ++ reprText z).length ≤ 15 + (reprText z).length := by
        rw [strLen]
        exact Nat.add_le_add_right (by decide +kernel) _
      exact Nat.le_trans e1 (Nat.le_trans (Nat.add_le_add_left hz 15) (by decide))
    · exact ⟨_, rfl, _, rfl, a, C, rfl, T.oex, T.no, .inl ⟨ha, fun dx hd hne => k dx hd hne⟩⟩
theorem ok_ivh {f c cc C : Addr} {fd : FuncData} (F : FunS P K "__init__" "InvalidHurt.__init__" sIvH f fd c cc C) (T : ExT P K mg C "reason") : FnOk P w K mg base CX0 1 f fd ["self", "reason"] (spInv K C) := by
  refine fn_super F scInv (fun vs H Q E h => ?_) (fun A outer s H vs Q E hr h s1 I => ?_)
  · obtain ⟨a, z, rfl, _⟩ := h
    rfl
  · obtain ⟨a, z, rfl, hz, ha, k⟩ := h
    refine super_exc (me := "self") (x := a) (C := C) (atS_of F rfl rfl rfl rfl ⟨_, rfl, rfl⟩) T.sup T.oex rfl T.hm T.hB T.hs
      (pa_cons (pe_joined (.cons pe_str (.cons (pe_fmtR (pv 1)) .nil))) pa_nil) (pss_one (ps_ost (pv 0) (pv 1))) I rfl ha ?_ rfl rfl rfl rfl rfl
    refine ⟨_, rfl, by decide +kernel, _, rfl, .inl ⟨z, rfl, Nat.le_trans hz (by decide), _, rfl, ?_, by show 1 ≤ 1000; decide, ha, ?_⟩⟩
    · have e1 : ((Str.empty ++ ("invalid hurt link: " : Str)) ++ reprText z).length ≤ 19 + (reprText z).length := by
        rw [strLen]
        exact Nat.add_le_add_right (by decide +kernel) _
      exact Nat.le_trans e1 (Nat.le_trans (Nat.add_le_add_left hz 19) (by decide))
    · exact ⟨_, rfl, _, rfl, a, C, rfl, T.oex, T.no, .inl ⟨ha, fun dx hd hne => k dx hd hne⟩⟩
end
abbrev sLaw67 : Stmt := top 69
abbrev nL67 : List Str := ["_law_script", "_law_pen_here", "_law_turn", "_law_bare_here", "_law_rows"]
theorem scL67 : FnScope nL67 ["_law_script"] (defScope sLaw67) := ⟨rfl, rfl, rfl, by decide +kernel, rfl, by decide +kernel, by decide +kernel⟩
/-- a def of the module, by its name, where nothing is being shown -/
def FiG (P : Program) (w : World) (K : PySem.W.Frag) (mg : Str → Option Value) (base : Heap) (x : Str) (k : Nat) (ps : List Str) (sp : Sp) : Prop := ∃ f fd, mg x = some (.ref f) ∧ PySem.W.keepIn K (.ref f) = true ∧ Binds K fd ps [] ∧ FnG P w K mg base CX0 k f fd ps sp
structure L67T (P : Program) (w : World) (K : PySem.W.Frag) (mg : Str → Option Value) (base : Heap) (Ph Pb : Addr) : Prop where
  pen : Fi P w K mg base "_law_pen" 1 ["_law_script"] (spPen K)
  bare : Fi P w K mg base "_law_bare" 3 ["_law_pen_here", "_law_most"] spBare
  par : Fi P w K mg base "_law_parts" 2 ["_law_pen_here", "_law_bare_here"] spPar
  arr : FiG P w K mg base "_law_arrived_right" 10 ["_law_pen_here", "_law_bare_here", "_law_rows"] spArr
  br : FiG P w K mg base "_law_bench_right" 14 ["_law_pen_here", "_law_bare_here", "_law_rows"] (spBr (tab2 Ph Pb))
  hr : FiG P w K mg base "_law_hurt_right" 9 ["_law_pen_here"] (spHr (tab2 Ph Pb))
  range : mg "range" = none
def spLaw67 (K : PySem.W.Frag) (Ph Pb : Addr) : Sp1 := fun v H Q => ∃ (a : Addr) (ns : List Int), v = .ref a ∧ SqL K H a (ns.map V.int) ∧ ns.length ≤ 63 ∧ Tabs (tab2 Ph Pb) H ∧ ∀ H', Q (.bl true) H'
section
variable {P : Program} {w : World} {K : PySem.W.Frag} {mg : Str → Option Value} {base : Heap}
theorem at_law {f Ph Pb : Addr} {fd : FuncData} (F : Fun K "law" "law" sLaw67 f fd) (hb : ∀ (s : Shared) (u : Value), BindsTo s fd ⟨[u], []⟩ [("_law_script", u)]) (T : L67T P w K mg base Ph Pb) : AtCall P w K mg base f (spLaw67 K Ph Pb) := by
  refine at_call (k := 15) F scL67 ⟨rfl, by decide, by decide⟩ hb fun cdv s H v Q hr h => ?_
  obtain ⟨sc, ns, rfl, hS, hlen, hT, k⟩ := h
  obtain ⟨fP, fdP, mP, kP, bP, GP⟩ := T.pen
  obtain ⟨fB, fdB, mB, kB, bB, GB⟩ := T.bare
  obtain ⟨fA, fdA, mA, kA, bA, GA⟩ := T.par
  obtain ⟨fR, fdR, mR, kR, bR, GR⟩ := T.arr
  obtain ⟨fE, fdE, mE, kE, bE, GE⟩ := T.br
  obtain ⟨fH, fdH, mH, kH, bH, GH⟩ := T.hr
  have hgu : (callerA.deeper (PyProof.Rows.envOfC "law" (defScope sLaw67) s.heap.objs.size f cdv)).guards = some [] := rfl
  have hr1 := hr.mono (show 1 ≤ 15 by decide)
  have hr2 := hr.mono (show 2 ≤ 15 by decide)
  have hr3 := hr.mono (show 3 ≤ 15 by decide)
  have hr9 := hr.mono (show 9 ≤ 15 by decide)
  have hr10 := hr.mono (show 10 ≤ 15 by decide)
  have hr14 := hr.mono (show 14 ≤ 15 by decide)
  refine ⟨_, pss_cons (ps_set (i := 1) scL67.nd rfl (Or.inl rfl) (pe_call GP hr1 rfl mP kP bP .nil pass0 (pa_cons (pv 0) pa_nil)))
    (pss_cut (ps_for PassesOwn.never rfl (pi_range1 rfl T.range (pa_cons pe_int pa_nil)) (pg_name (i := 2) scL67.nd rfl (Or.inl rfl))
      (pss_cons (ps_set (i := 3) scL67.nd rfl (Or.inl rfl) (pe_call GB hr3 rfl mB kB bB .nil pass0 (pa_cons (pv 1) (pa_cons pe_int pa_nil))))
      (pss_cons (ps_set (i := 4) scL67.nd rfl (Or.inl rfl) (pe_call GA hr2 rfl mA kA bA .nil pass0 (pa_cons (pv 1) (pa_cons (pv 3) pa_nil))))
      (pss_one (ps_if (PW.pt (pw_or (pt_not (pt_val (pe_callG GR hgu hr10 rfl mR kR bR pass0 (pa_cons (pv 1) (pa_cons (pv 3) (pa_cons (pv 4) pa_nil))))))
        (pw_or1 (pt_not (pt_val (pe_callG GE hgu hr14 rfl mE kE bE pass0 (pa_cons (pv 1) (pa_cons (pv 3) (pa_cons (pv 4) pa_nil))))))))) (pss_one (ps_ret pe_bl)) pss_nil)))))
    (pss_one (ps_ret (pe_callG GH hgu hr9 rfl mH kH bH pass0 (pa_cons (pv 1) pa_nil))))), ?_⟩
  refine ⟨_, rfl, sc, ns, rfl, hS, hlen, fun p l cs H1 hP s1 => ?_⟩
  refine ⟨fun σ H' => (∃ o2 o3 o4, σ = ([some (.ref sc), some (.ref p), o2, o3, o4] : List (Option V))) ∧ Pen H' p l cs 6000 ∧ Tabs (tab2 Ph Pb) H', ?_, ?_⟩
  · refine ⟨6, rfl, by decide, by decide, for_range (n := 6) (fun i σ H' => (∃ o2 o3 o4, σ = ([some (.ref sc), some (.ref p), o2, o3, o4] : List (Option V))) ∧ Pen H' p l cs (1000 * i) ∧ Tabs (tab2 Ph Pb) H') ⟨⟨_, _, _, rfl⟩, hP, hT.ext s1⟩ ?_ (fun σ H' h => h)⟩
    rintro i σ H2 hi ⟨⟨o2, o3, o4, rfl⟩, P2, T2⟩
    obtain ⟨xs2, hp2⟩ := P2.at'
    refine ⟨_, rfl, p, l, cs, 1000 * i, 6, rfl, P2, by decide, by omega, fun b d H3 ok hl hb2 hB3 P3 b23 => ?_⟩
    have T3 := tabs_but T2 hp2 b23
    obtain ⟨xs3, hp3⟩ := P3.at'
    refine ⟨_, rfl, _, rfl, p, l, cs, _, b, d, rfl, P3, hB3, ok, by omega, fun q G H4 hR hG1 hG8 hGp P4 b34 => ?_⟩
    have T4 := tabs_but T3 hp3 b34
    have hB4 := hB3.but P3 b34
    have hR4 : RowP H4 p q G := ⟨hR.at_, nep P3 hR.new, fun x hx => ⟨(hR.row x hx).1, nep P3 (hR.row x hx).2.1⟩⟩
    obtain ⟨xs4, hp4⟩ := P4.at'
    refine ⟨_, rfl, _, rfl, _, rfl, p, l, cs, _, b, q, d, G, rfl, P4, hB4, ok, hR4, hG1, hG8, hGp, by omega, fun H5 P5 b45 => ⟨true, rfl, iteF ?_⟩⟩
    have T5 := tabs_but T4 hp4 b45
    exact ⟨_, rfl, _, rfl, _, rfl, p, l, cs, _, b, q, d, G, rfl, P5, hB4.but P4 b45, ok, hR4.but b45, hG1, hG8, hGp, by omega, T5, fun H6 P6 T6 => ⟨true, rfl, iteF ⟨⟨_, _, _, rfl⟩, P6.mono (by omega), T6⟩⟩⟩
  rintro σ H2 ⟨⟨o2, o3, o4, rfl⟩, P2, T2⟩
  exact ⟨_, rfl, p, l, cs, _, rfl, P2, by decide, T2, fun H' => k H'⟩
end
/-- the tables in their order: _law_hurt_right, _law_bench_right -/
def sp67L (K : PySem.W.Frag) (Ts : List Addr) : Sp1 := fun v H Q => ∃ Ph Pb, Ts = [Ph, Pb] ∧ spLaw67 K Ph Pb v H Q
theorem want67 (K : PySem.W.Frag) (Ts : List Addr) (H : Hp) (a : Addr) (ns : List Int) (hl : Ts.length = 2) (h63 : ns.length ≤ 63) (hT : ∀ Pt ∈ Ts, H Pt = some (.tbl #[])) (hS : SqL K H a (ns.map V.int)) : sp67L K Ts (.ref a) H fun v _ => v = .bl true := by
  match Ts, hl with
  | [x, y], _ =>
    refine ⟨x, y, rfl, a, ns, rfl, hS, h63, fun p hp => ?_, fun _ => rfl⟩
    rcases List.mem_cons.mp hp with rfl | hp
    · exact TabS.nil (hT _ List.mem_cons_self)
    · rw [List.mem_singleton.mp hp]
      exact TabS.nil (hT _ (by simp))
end Sj
namespace Sj
open PySem L2 Sup StK Own Grd Exg Shw
open NdefX (NF NScope ncx envF startF nscope_by)
open C8 (pss_cut tCut)
/-! k67: Frame.members (as F5d has it) -/
section
variable {P : Program} {w : World} {K : PySem.W.Frag} {mg : Str → Option Value} {base : Heap}
theorem scFr8 : FnScope ["self"] ["self"] (defScope (sFr 8)) := ⟨rfl, rfl, rfl, by decide +kernel, rfl, by decide +kernel, by decide +kernel⟩
theorem ok_fmem {f CF : Addr} {fd : FuncData} {ks : Kinds} (F : Fun K "members" "Frame.members" (sFr 8) f fd) (T : FpT P w K mg base ks CF) (TN : PropN P w K mg base 1 CF "names" (spTup ks CF fun d => names d.ys)) (TR : PropN P w K mg base 1 CF "rails" (spTup ks CF fun d => railsZ d.g d.r)) :
    FnOk P w K mg base CX0 3 f fd ["self"] (spMem ks CF) := by
  refine F.ok (scFr8) (fun vs H Q E h => ?_) (fun cdv A outer s H vs Q E hr h => ?_)
  · obtain ⟨a, d, rfl, _⟩ := h
    rfl
  · obtain ⟨a, d, rfl, hF, k⟩ := h
    obtain ⟨dx, fs, ea⟩ := hF.ins
    refine ⟨_, pss_one (ps_ret (pe_callTy (T := "tuple") call_tuple_of (by rfl) T.tuple (by decide +kernel) (pa_cons (pe_callB SortT.call_sortT (by rfl) T.sorted (by decide +kernel) (pa_cons (pe_op op_catA (pe_propS (S := fun C => C = CF) (spP := fun _ => spTup ks CF fun d => names d.ys) (pv 0) (fun C e => by rw [e]; exact TN) hr) (pe_propS (S := fun C => C = CF) (spP := fun _ => spTup ks CF fun d => railsZ d.g d.r) (pv 0) (fun C e => by rw [e]; exact TR) hr)) pa_nil)) pa_nil))), ?_⟩
    refine ⟨_, rfl, a, CF, dx, fs, rfl, ea, rfl, a, d, rfl, hF, fun p1 H1 hp1 hv1 s1 => ?_⟩
    refine ⟨_, rfl, a, CF, dx, fs, rfl, s1 _ _ ea, rfl, a, d, rfl, hF.same s1, fun p2 H2 hp2 hv2 s2 => ?_⟩
    have hn40 : (names d.ys).length ≤ 40 := by unfold names; rw [List.length_map]; exact hF.le
    have hr2 : (railsZ d.g d.r).length ≤ 2 := by unfold railsZ; cases d.g <;> cases d.r <;> decide
    have go : ∀ q H3, H3 q = some (.tup (strv (names d.ys ++ railsZ d.g d.r))) → Same H2 H3 → SortT.rSortT K [.ref q] H3 (fun v H' => rTupQ K [v] H' fun v' H'' => Q v' H'') := fun q H3 hq s3 => by
      refine ⟨q, _, rfl, SqT.of hq, by rw [List.length_append]; omega, fun ms p hperm hso hp => ?_⟩
      have s4 := same_at (o := .lst (ms.map V.str)) hp
      refine ⟨p, _, rfl, .inl ⟨SqL.of upd_same, fun l hl => ?_⟩⟩
      have s5 := same_at (o := .tup (ms.map V.str)) hl
      have s03 := (s1.trans s2).trans s3
      exact k ms l _ ⟨hperm, hso⟩ ((s03.trans s4).free hl) upd_same ((s03.trans s4).trans s5)
    refine ⟨p1, p2, strv (names d.ys), strv (railsZ d.g d.r), rfl, rfl, SqT.of (s2 _ _ hv1), SqT.of hv2, ?_, fun e => ?_, fun _ e => ?_, fun _ _ p3 hp3 => ?_⟩
    · show (List.map _ _).length + (List.map _ _).length ≤ _
      rw [List.length_map, List.length_map]
      exact Nat.le_trans (show _ ≤ 42 by omega) (by decide)
    · have e0 : names d.ys = [] := List.map_eq_nil_iff.mp e
      exact go p2 H2 (by rw [e0, List.nil_append]; exact hv2) (Same.refl _)
    · have e0 : railsZ d.g d.r = [] := List.map_eq_nil_iff.mp e
      exact go p1 H2 (by rw [e0, List.append_nil]; exact s2 _ _ hv1) (Same.refl _)
    · refine go p3 _ ?_ (same_at hp3)
      rw [upd_same]
      show _ = some (HO.tup (List.map _ _))
      rw [List.map_append]
      rfl
end
end Sj
namespace Sj
open PySem L2 Sup StK Own Shw Exg Grd KepE LamX
open NdefX (NF NScope ncx envF startF nscope_by)
theorem wof_k0 {P : Program} {w : World} {K : PySem.W.Frag} {mg : Str → Option Value} {base : Heap} {f CF CW : Addr} {fd : FuncData} {ks : Kinds} (F : Fun K "of" "Word.of" (sWd 1) f fd) (G : FnOk P w K mg base CX0 8 f fd ["cls", "frame", "levels"] (spWOf ks CF CW)) : FnK P w K mg base CX0 8 f [] (fun vs zs H Q E => vs.length = 3 ∧ spWOf ks CF CW vs H Q E) := by
  obtain ⟨oc, od, kV, doc, pm, an, cdv, ct, osl, rfl, lk, hcd⟩ := F.ex
  exact fnK_of (g := fun us _ => us) (gV := fun vs _ => vs) G ⟨fun s us ws _ l1 l2 => .of_eq (match us, ws, l1, l2 with | [_, _, _], [], _, _ => rfl), fun r _ => r⟩
theorem wre_k0 {P : Program} {w : World} {K : PySem.W.Frag} {mg : Str → Option Value} {base : Heap} {f CF CW : Addr} {fd : FuncData} {ks : Kinds} (F : Fun K "rest" "Word.rest" (sWd 2) f fd) (G : FnOk P w K mg base CX0 8 f fd ["cls", "frame"] (spWRest ks CF CW)) : FnK P w K mg base CX0 8 f [] (fun vs zs H Q E => vs.length = 2 ∧ spWRest ks CF CW vs H Q E) := by
  obtain ⟨oc, od, kV, doc, pm, an, cdv, ct, osl, rfl, lk, hcd⟩ := F.ex
  exact fnK_of (g := fun us _ => us) (gV := fun vs _ => vs) G ⟨fun s us ws _ l1 l2 => .of_eq (match us, ws, l1, l2 with | [_, _], [], _, _ => rfl), fun r _ => r⟩
theorem ar_k {P : Program} {w : World} {K : PySem.W.Frag} {mg : Str → Option Value} {base : Heap} {f : Addr} {fd : FuncData} {sp : Sp} (F : Fun K "arrived" "Chain.arrived" sChA f fd) (G : FnOk P w K mg base CX0 9 f fd ["self", "digits"] sp) : FnKG P w K mg base CX0 9 f ["digits"] sp := by
  obtain ⟨oc, od, kV, doc, pm, an, cdv, ct, osl, rfl, lk, hcd⟩ := F.ex
  exact fnKG_of (FnG.of G) fun s u ws h => match ws, h with
    | [_], _ => .of_eq rfl
theorem all_mk67 {P : Program} {w : World} {K : PySem.W.Frag} {h : Heap} {mg : Str → Option Value} {fa : Addr} (X : K.In h) (G : h.Ns mainGlobals mg) (hfa : mg "law" = some (.ref fa)) (own : ∀ nm ∈ (["_law_hurt_right", "_law_bench_right"] : List Str), ∀ g, mg nm = some (.ref g) → OwnTab K g h)
    {CI : Addr}
    {CL : Addr}
    {CD : Addr}
    {CS : Addr}
    {CF : Addr}
    {CW : Addr}
    {CC : Addr}
    {CH : Addr}
    {CB : Addr}
    {CE : Addr}
    {CU : Addr}
    {CV : Addr}
    {CJ : Addr}
    {tL tN : Tok} {aR : Addr} {dR : Option Addr} {itsR : Array Value} {nR : Nat} {slR : Array (Option Value)}
    {aRs : Addr}
    {mcW : Value}
    {mcC uC : Value}
    {fN : Addr} {odN anN : Option Addr} {slN : Array (Option Value)} {ocN kVN dcN pmN cdN ctN : Value}
    {fIi : Addr} {odIi anIi : Option Addr} {slIi : Array (Option Value)} {ocIi kVIi dcIi pmIi cdIi ctIi : Value}
    {fBt : Addr} {odBt anBt : Option Addr} {slBt : Array (Option Value)} {ocBt kVBt dcBt pmBt cdBt ctBt : Value}
    {fWr : Addr} {odWr anWr : Option Addr} {slWr : Array (Option Value)} {ocWr kVWr dcWr pmWr cdWr ctWr : Value}
    {fLI : Addr} {odLI anLI : Option Addr} {slLI : Array (Option Value)} {ocLI kVLI dcLI pmLI cdLI ctLI : Value}
    {fPn : Addr} {odPn anPn : Option Addr} {slPn : Array (Option Value)} {ocPn kVPn dcPn pmPn cdPn ctPn : Value}
    {fDr : Addr} {odDr anDr : Option Addr} {slDr : Array (Option Value)} {ocDr kVDr dcDr pmDr cdDr ctDr : Value}
    {fTg : Addr} {odTg anTg : Option Addr} {slTg : Array (Option Value)} {ocTg kVTg dcTg pmTg cdTg ctTg : Value}
    {fBa : Addr} {odBa anBa : Option Addr} {slBa : Array (Option Value)} {ocBa kVBa dcBa pmBa cdBa ctBa : Value}
    {fFm : Addr} {odFm anFm : Option Addr} {slFm : Array (Option Value)} {ocFm kVFm dcFm pmFm cdFm ctFm : Value}
    {fId : Addr} {odId anId : Option Addr} {slId : Array (Option Value)} {ocId kVId dcId pmId cdId ctId : Value}
    {fDl : Addr} {odDl anDl : Option Addr} {slDl : Array (Option Value)} {ocDl kVDl dcDl pmDl cdDl ctDl : Value}
    {fLv : Addr} {odLv anLv : Option Addr} {slLv : Array (Option Value)} {ocLv kVLv dcLv pmLv cdLv ctLv : Value}
    {fWp : Addr} {odWp anWp : Option Addr} {slWp : Array (Option Value)} {ocWp kVWp dcWp pmWp cdWp ctWp : Value}
    {fPa : Addr} {odPa anPa : Option Addr} {slPa : Array (Option Value)} {ocPa kVPa dcPa pmPa cdPa ctPa : Value}
    {fCe : Addr} {odCe anCe : Option Addr} {slCe : Array (Option Value)} {ocCe kVCe dcCe pmCe cdCe ctCe : Value}
    {fIm : Addr} {odIm anIm : Option Addr} {slIm : Array (Option Value)} {ocIm kVIm dcIm pmIm cdIm ctIm : Value}
    {fCk : Addr} {odCk anCk : Option Addr} {slCk : Array (Option Value)} {ocCk kVCk dcCk pmCk cdCk ctCk : Value}
    {fWb : Addr} {odWb anWb : Option Addr} {slWb : Array (Option Value)} {ocWb kVWb dcWb pmWb cdWb ctWb : Value}
    {fPk : Addr} {odPk anPk : Option Addr} {slPk : Array (Option Value)} {ocPk kVPk dcPk pmPk cdPk ctPk : Value}
    {fMm : Addr} {odMm anMm : Option Addr} {slMm : Array (Option Value)} {ocMm kVMm dcMm pmMm cdMm ctMm : Value}
    {fHe : Addr} {odHe anHe : Option Addr} {slHe : Array (Option Value)} {ocHe kVHe dcHe pmHe cdHe ctHe : Value}
    {fAr : Addr} {odAr anAr : Option Addr} {slAr : Array (Option Value)} {ocAr kVAr dcAr pmAr cdAr ctAr : Value}
    {fLn : Addr} {odLn anLn : Option Addr} {slLn : Array (Option Value)} {ocLn kVLn dcLn pmLn cdLn ctLn : Value}
    {fWi : Addr} {odWi anWi : Option Addr} {slWi : Array (Option Value)} {ocWi kVWi dcWi pmWi cdWi ctWi : Value}
    {fLw : Addr} {odLw anLw : Option Addr} {slLw : Array (Option Value)} {ocLw kVLw dcLw pmLw cdLw ctLw : Value}
    {fgD : Addr} {odgD angD : Option Addr} {slgD : Array (Option Value)} {ocgD kVgD dcgD pmgD cdgD ctgD : Value}
    {pgD : Addr} {rsgD : List Value}
    {fgN : Addr} {odgN angN : Option Addr} {slgN : Array (Option Value)} {ocgN kVgN dcgN pmgN cdgN ctgN : Value}
    {pgN : Addr} {rsgN : List Value}
    {fgR : Addr} {odgR angR : Option Addr} {slgR : Array (Option Value)} {ocgR kVgR dcgR pmgR cdgR ctgR : Value}
    {pgR : Addr} {rsgR : List Value}
    {fgM : Addr} {odgM angM : Option Addr} {slgM : Array (Option Value)} {ocgM kVgM dcgM pmgM cdgM ctgM : Value}
    {pgM : Addr} {rsgM : List Value}
    {fmC : Addr} {odmC anmC : Option Addr} {slmC : Array (Option Value)} {ocmC kVmC dcmC pmmC cdmC ctmC : Value}
    {fmG : Addr} {odmG anmG : Option Addr} {slmG : Array (Option Value)} {ocmG kVmG dcmG pmmG cdmG ctmG : Value}
    {fmE : Addr} {odmE anmE : Option Addr} {slmE : Array (Option Value)} {ocmE kVmE dcmE pmmE cdmE ctmE : Value}
    {fmN : Addr} {odmN anmN : Option Addr} {slmN : Array (Option Value)} {ocmN kVmN dcmN pmmN cdmN ctmN : Value}
    {fDvD : Addr} {odDvD anDvD : Option Addr} {slDvD : Array (Option Value)} {ocDvD kVDvD dcDvD pmDvD cdDvD ctDvD : Value}
    {pDvD : Addr} {rsDvD : List Value}
    {fDvS : Addr} {odDvS anDvS : Option Addr} {slDvS : Array (Option Value)} {ocDvS kVDvS dcDvS pmDvS cdDvS ctDvS : Value}
    {pDvS : Addr} {rsDvS : List Value}
    {fEqD : Addr} {odEqD anEqD : Option Addr} {slEqD : Array (Option Value)} {ocEqD kVEqD dcEqD pmEqD cdEqD ctEqD : Value}
    {fEqS : Addr} {odEqS anEqS : Option Addr} {slEqS : Array (Option Value)} {ocEqS kVEqS dcEqS pmEqS cdEqS ctEqS : Value}
    {fwI : Addr} {odwI anwI : Option Addr} {slwI : Array (Option Value)} {ocwI kVwI dcwI pmwI cdwI ctwI : Value}
    {fwG : Addr} {odwG anwG : Option Addr} {slwG : Array (Option Value)} {ocwG kVwG dcwG pmwG cdwG ctwG : Value}
    {fwQ : Addr} {odwQ anwQ : Option Addr} {slwQ : Array (Option Value)} {ocwQ kVwQ dcwQ pmwQ cdwQ ctwQ : Value}
    {fwO : Addr} {odwO anwO : Option Addr} {slwO : Array (Option Value)} {ocwO kVwO dcwO pmwO cdwO ctwO : Value}
    {pwO : Addr} {rswO : List Value}
    {fwR : Addr} {odwR anwR : Option Addr} {slwR : Array (Option Value)} {ocwR kVwR dcwR pmwR cdwR ctwR : Value}
    {pwR : Addr} {rswR : List Value}
    {fcI : Addr} {odcI ancI : Option Addr} {slcI : Array (Option Value)} {occI kVcI dccI pmcI cdcI ctcI : Value}
    {fcO : Addr} {odcO ancO : Option Addr} {slcO : Array (Option Value)} {occO kVcO dccO pmcO cdcO ctcO : Value}
    {pcO : Addr} {rscO : List Value}
    {fcC : Addr} {odcC ancC : Option Addr} {slcC : Array (Option Value)} {occC kVcC dccC pmcC cdcC ctcC : Value}
    {pcC : Addr} {rscC : List Value}
    {fcN : Addr} {odcN ancN : Option Addr} {slcN : Array (Option Value)} {occN kVcN dccN pmcN cdcN ctcN : Value}
    {fcA : Addr} {odcA ancA : Option Addr} {slcA : Array (Option Value)} {occA kVcA dccA pmcA cdcA ctcA : Value}
    {fcL : Addr} {odcL ancL : Option Addr} {slcL : Array (Option Value)} {occL kVcL dccL pmcL cdcL ctcL : Value}
    {fhI : Addr} {odhI anhI : Option Addr} {slhI : Array (Option Value)} {ochI kVhI dchI pmhI cdhI cthI : Value}
    {fhL : Addr} {odhL anhL : Option Addr} {slhL : Array (Option Value)} {ochL kVhL dchL pmhL cdhL cthL : Value}
    {phL : Addr} {rshL : List Value}
    {fhQ : Addr} {odhQ anhQ : Option Addr} {slhQ : Array (Option Value)} {ochQ kVhQ dchQ pmhQ cdhQ cthQ : Value}
    {fhS : Addr} {odhS anhS : Option Addr} {slhS : Array (Option Value)} {ochS kVhS dchS pmhS cdhS cthS : Value}
    {fbI : Addr} {odbI anbI : Option Addr} {slbI : Array (Option Value)} {ocbI kVbI dcbI pmbI cdbI ctbI : Value}
    {fFI DFI : Addr} {odFI anFI : Option Addr} {slFI : Array (Option Value)} {ocFI dcFI pmFI cdFI ctFI x1FI x2FI x3FI : Value}
    {fO DO : Addr} {odO anO : Option Addr} {slO : Array (Option Value)} {ocO dcO pmO cdO ctO x1O x2O x3O : Value}
    {pO : Addr} {rsO : List Value} {mcF uM : Value}
    {fBE TE : Addr} {odBE anBE ddE : Option Addr} {slBE scE : Array (Option Value)} {ocBE kVBE dcBE pmBE cdBE ctBE eTE : Value} {itE : Array Value} {nTE : Nat}
    {fIE xIE yIE : Addr} {odIE anIE : Option Addr} {slIE : Array (Option Value)} {ocIE kVIE dcIE pmIE ctIE : Value}
    {u1IE u2IE : Value} {v1IE v2IE : Option Addr} {vsIE : Array Value} {w1IE w2IE : Array (Option Value)} {flIE : Str} {tfIE : Tok}
    {fIU xIU yIU : Addr} {odIU anIU : Option Addr} {slIU : Array (Option Value)} {ocIU kVIU dcIU pmIU ctIU : Value}
    {u1IU u2IU : Value} {v1IU v2IU : Option Addr} {vsIU : Array Value} {w1IU w2IU : Array (Option Value)} {flIU : Str} {tfIU : Tok}
    {fIV xIV yIV : Addr} {odIV anIV : Option Addr} {slIV : Array (Option Value)} {ocIV kVIV dcIV pmIV ctIV : Value}
    {u1IV u2IV : Value} {v1IV v2IV : Option Addr} {vsIV : Array Value} {w1IV w2IV : Array (Option Value)} {flIV : Str} {tfIV : Tok}
    {fDI xDI yDI : Addr} {odDI anDI : Option Addr} {slDI : Array (Option Value)} {ocDI kVDI dcDI pmDI ctDI : Value}
    {u1DI u2DI : Value} {v1DI v2DI : Option Addr} {vsDI : Array Value} {w1DI w2DI : Array (Option Value)} {flDI : Str} {tfDI : Tok}
    {fSI xSI ySI : Addr} {odSI anSI : Option Addr} {slSI : Array (Option Value)} {ocSI kVSI dcSI pmSI ctSI : Value}
    {u1SI u2SI : Value} {v1SI v2SI : Option Addr} {vsSI : Array Value} {w1SI w2SI : Array (Option Value)} {flSI : Str} {tfSI : Tok}
    {cdCI : ClassData}
    {cdCD : ClassData}
    {cdCS : ClassData}
    {cdCL : ClassData}
    {cdCU : ClassData}
    {cdCV : ClassData}
    {nm q : Str} {Ns : Addr} {bs bm sub : List Value} {sn : List Str} {ab : Bool} {col : Option Bool} {dd : Option Addr} {k0 k1 k2 k3 k5 : Option Value}
    {nm2 q2 : Str} {Ns2 : Addr} {bs2 bm2 sub2 : List Value} {sn2 : List Str} {ab2 : Bool} {col2 : Option Bool} {dd2 : Option Addr} {k02 k12 k22 k32 k52 : Option Value}
    {nm3 q3 : Str} {Ns3 : Addr} {bs3 bm3 sub3 : List Value} {sn3 : List Str} {ab3 : Bool} {col3 : Option Bool} {dd3 : Option Addr} {k03 k13 k23 k33 k53 : Option Value}
    {fHr cHr PtHr : Addr} {odHr anHr : Option Addr} {slHr : Array (Option Value)} {ocHr kVHr dcHr pmHr ctHr : Value} {eHr : Value} {ddHr : Option Addr} {vsHr : Array Value} {scHr : Array (Option Value)}
    {fBr cBr PtBr : Addr} {odBr anBr : Option Addr} {slBr : Array (Option Value)} {ocBr kVBr dcBr pmBr ctBr : Value} {eBr : Value} {ddBr : Option Addr} {vsBr : Array Value} {scBr : Array (Option Value)}
    (gCI : PySem.W.nsIn K mainGlobals "InvalidFrame" = some (some (.ref CI)))
    (gCL : PySem.W.nsIn K mainGlobals "Leg" = some (some (.ref CL)))
    (gCD : PySem.W.nsIn K mainGlobals "Driver" = some (some (.ref CD)))
    (gCS : PySem.W.nsIn K mainGlobals "Listener" = some (some (.ref CS)))
    (gCF : PySem.W.nsIn K mainGlobals "Frame" = some (some (.ref CF)))
    (gCW : PySem.W.nsIn K mainGlobals "Word" = some (some (.ref CW)))
    (gCC : PySem.W.nsIn K mainGlobals "Chain" = some (some (.ref CC)))
    (gCH : PySem.W.nsIn K mainGlobals "Hurt" = some (some (.ref CH)))
    (gCB : PySem.W.nsIn K mainGlobals "Board" = some (some (.ref CB)))
    (gCE : PySem.W.nsIn K mainGlobals "Bench" = some (some (.ref CE)))
    (gCU : PySem.W.nsIn K mainGlobals "InvalidHurt" = some (some (.ref CU)))
    (gCV : PySem.W.nsIn K mainGlobals "InvalidBoard" = some (some (.ref CV)))
    (gCJ : PySem.W.nsIn K mainGlobals "JoinError" = some (some (.ref CJ)))
    (gLet : PySem.W.nsIn K mainGlobals "LETTERS" = some (some (.str lettersS tL)))
    (gLon : PySem.W.nsIn K mainGlobals "LONGEST" = some (some (.int 8 tN)))
    (gRes : PySem.W.nsIn K mainGlobals "RESERVED" = some (some (.ref aR)))
    (lRes : K.lookup aR = some ⟨.type "tuple", dR, .seq itsR nR, slR⟩)
    (sRes : itsR.size ≤ sizeLine)
    (vRes : Vals reservedV itsR.toList)
    (gRst : PySem.W.nsIn K mainGlobals "RESET" = some (some (.ref aRs)))
    (z_dict : PySem.W.nsIn K mainGlobals "dict" = some none)
    (z_zip : PySem.W.nsIn K mainGlobals "zip" = some none)
    (z_any : PySem.W.nsIn K mainGlobals "any" = some none)
    (z_ValueError : PySem.W.nsIn K mainGlobals "ValueError" = some none)
    (z_set : PySem.W.nsIn K mainGlobals "set" = some none)
    (z_isinstance : PySem.W.nsIn K mainGlobals "isinstance" = some none)
    (z_str : PySem.W.nsIn K mainGlobals "str" = some none)
    (z_len : PySem.W.nsIn K mainGlobals "len" = some none)
    (z_all : PySem.W.nsIn K mainGlobals "all" = some none)
    (z_bool : PySem.W.nsIn K mainGlobals "bool" = some none)
    (z_int : PySem.W.nsIn K mainGlobals "int" = some none)
    (z_abs : PySem.W.nsIn K mainGlobals "abs" = some none)
    (z_range : PySem.W.nsIn K mainGlobals "range" = some none)
    (z_list : PySem.W.nsIn K mainGlobals "list" = some none)
    (z_tuple : PySem.W.nsIn K mainGlobals "tuple" = some none)
    (z_sorted : PySem.W.nsIn K mainGlobals "sorted" = some none)
    (z_super : PySem.W.nsIn K mainGlobals "super" = some none)
    (z_repr : PySem.W.nsIn K mainGlobals "repr" = some none)
    (tyW : PySem.W.typeIn K (.ref CW) = some mcW)
    (rdW : PySem.W.readsIn K CW mcW = true)
    (gaW : PySem.W.specialIn K (.ref CW) "__getattribute__" = some (some (.builtin "type.__getattribute__")))
    (tyC : PySem.W.typeIn K (.ref CC) = some mcC)
    (rdC : PySem.W.readsIn K CC mcC = true)
    (gaC : PySem.W.specialIn K (.ref CC) "__getattribute__" = some (some (.builtin "type.__getattribute__")))
    (moC : PySem.W.findCls K (.ref CC) mcC "MOST" = some (.val uC))
    (rmC : RelV (.int 8) uC)
    (aN : PySem.W.nsIn K mainGlobals "is_name" = some (some (.ref fN)))
    (lN : K.lookup fN = some ⟨ocN, odN, .func (PySem.W.fnOf "is_name" "is_name" (defArgs sIsName) (defBody sIsName) (defScope sIsName) .none kVN dcN pmN anN cdN ctN), slN⟩)
    (cN : PySem.W.codeIn K cdN "is_name" = true)
    (kN : PySem.W.keepIn K (.ref fN) = true)
    (aIi : PySem.W.nsIn K mainGlobals "is_integer" = some (some (.ref fIi)))
    (lIi : K.lookup fIi = some ⟨ocIi, odIi, .func (PySem.W.fnOf "is_integer" "is_integer" (defArgs sIsInt) (defBody sIsInt) (defScope sIsInt) .none kVIi dcIi pmIi anIi cdIi ctIi), slIi⟩)
    (cIi : PySem.W.codeIn K cdIi "is_integer" = true)
    (kIi : PySem.W.keepIn K (.ref fIi) = true)
    (aBt : PySem.W.nsIn K mainGlobals "is_between" = some (some (.ref fBt)))
    (lBt : K.lookup fBt = some ⟨ocBt, odBt, .func (PySem.W.fnOf "is_between" "is_between" (defArgs sBetw) (defBody sBetw) (defScope sBetw) .none kVBt dcBt pmBt anBt cdBt ctBt), slBt⟩)
    (cBt : PySem.W.codeIn K cdBt "is_between" = true)
    (kBt : PySem.W.keepIn K (.ref fBt) = true)
    (aWr : PySem.W.nsIn K mainGlobals "wrong_frame" = some (some (.ref fWr)))
    (lWr : K.lookup fWr = some ⟨ocWr, odWr, .func (PySem.W.fnOf "wrong_frame" "wrong_frame" (defArgs sWrong) (defBody sWrong) (defScope sWrong) .none kVWr dcWr pmWr anWr cdWr ctWr), slWr⟩)
    (cWr : PySem.W.codeIn K cdWr "wrong_frame" = true)
    (kWr : PySem.W.keepIn K (.ref fWr) = true)
    (aLI : PySem.W.findIn K (.ref CL) "__init__" = some (some (.ref fLI)))
    (iLI : PySem.W.isFn K (.ref fLI) = true)
    (lLI : K.lookup fLI = some ⟨ocLI, odLI, .func (PySem.W.fnOf "__init__" "Leg.__init__" (defArgs sLegI) (defBody sLegI) (defScope sLegI) .none kVLI dcLI pmLI anLI cdLI ctLI), slLI⟩)
    (cLI : PySem.W.codeIn K cdLI "Leg.__init__" = true)
    (kLI : PySem.W.keepIn K (.ref fLI) = true)
    (aPn : PySem.W.nsIn K mainGlobals "_law_pen" = some (some (.ref fPn)))
    (lPn : K.lookup fPn = some ⟨ocPn, odPn, .func (PySem.W.fnOf "_law_pen" "_law_pen" (defArgs sPen) (defBody sPen) (defScope sPen) .none kVPn dcPn pmPn anPn cdPn ctPn), slPn⟩)
    (cPn : PySem.W.codeIn K cdPn "_law_pen" = true)
    (kPn : PySem.W.keepIn K (.ref fPn) = true)
    (aDr : PySem.W.nsIn K mainGlobals "_law_draw" = some (some (.ref fDr)))
    (lDr : K.lookup fDr = some ⟨ocDr, odDr, .func (PySem.W.fnOf "_law_draw" "_law_draw" (defArgs sDraw) (defBody sDraw) (defScope sDraw) .none kVDr dcDr pmDr anDr cdDr ctDr), slDr⟩)
    (cDr : PySem.W.codeIn K cdDr "_law_draw" = true)
    (kDr : PySem.W.keepIn K (.ref fDr) = true)
    (aTg : PySem.W.nsIn K mainGlobals "_law_tags" = some (some (.ref fTg)))
    (lTg : K.lookup fTg = some ⟨ocTg, odTg, .func (PySem.W.fnOf "_law_tags" "_law_tags" (defArgs sTags) (defBody sTags) (defScope sTags) .none kVTg dcTg pmTg anTg cdTg ctTg), slTg⟩)
    (cTg : PySem.W.codeIn K cdTg "_law_tags" = true)
    (kTg : PySem.W.keepIn K (.ref fTg) = true)
    (aBa : PySem.W.nsIn K mainGlobals "_law_bare" = some (some (.ref fBa)))
    (lBa : K.lookup fBa = some ⟨ocBa, odBa, .func (PySem.W.fnOf "_law_bare" "_law_bare" (defArgs sBare) (defBody sBare) (defScope sBare) .none kVBa dcBa pmBa anBa cdBa ctBa), slBa⟩)
    (cBa : PySem.W.codeIn K cdBa "_law_bare" = true)
    (kBa : PySem.W.keepIn K (.ref fBa) = true)
    (aFm : PySem.W.nsIn K mainGlobals "_law_frame" = some (some (.ref fFm)))
    (lFm : K.lookup fFm = some ⟨ocFm, odFm, .func (PySem.W.fnOf "_law_frame" "_law_frame" (defArgs sFrm) (defBody sFrm) (defScope sFrm) .none kVFm dcFm pmFm anFm cdFm ctFm), slFm⟩)
    (cFm : PySem.W.codeIn K cdFm "_law_frame" = true)
    (kFm : PySem.W.keepIn K (.ref fFm) = true)
    (aId : PySem.W.nsIn K mainGlobals "is_driver" = some (some (.ref fId)))
    (lId : K.lookup fId = some ⟨ocId, odId, .func (PySem.W.fnOf "is_driver" "is_driver" (defArgs sIsD) (defBody sIsD) (defScope sIsD) .none kVId dcId pmId anId cdId ctId), slId⟩)
    (cId : PySem.W.codeIn K cdId "is_driver" = true)
    (kId : PySem.W.keepIn K (.ref fId) = true)
    (aDl : PySem.W.nsIn K mainGlobals "driver_levels" = some (some (.ref fDl)))
    (lDl : K.lookup fDl = some ⟨ocDl, odDl, .func (PySem.W.fnOf "driver_levels" "driver_levels" (defArgs sDL) (defBody sDL) (defScope sDL) .none kVDl dcDl pmDl anDl cdDl ctDl), slDl⟩)
    (cDl : PySem.W.codeIn K cdDl "driver_levels" = true)
    (kDl : PySem.W.keepIn K (.ref fDl) = true)
    (aLv : PySem.W.nsIn K mainGlobals "_law_levels" = some (some (.ref fLv)))
    (lLv : K.lookup fLv = some ⟨ocLv, odLv, .func (PySem.W.fnOf "_law_levels" "_law_levels" (defArgs sLvs) (defBody sLvs) (defScope sLvs) .none kVLv dcLv pmLv anLv cdLv ctLv), slLv⟩)
    (cLv : PySem.W.codeIn K cdLv "_law_levels" = true)
    (kLv : PySem.W.keepIn K (.ref fLv) = true)
    (aWp : PySem.W.nsIn K mainGlobals "wrong_parts" = some (some (.ref fWp)))
    (lWp : K.lookup fWp = some ⟨ocWp, odWp, .func (PySem.W.fnOf "wrong_parts" "wrong_parts" (defArgs sWp) (defBody sWp) (defScope sWp) .none kVWp dcWp pmWp anWp cdWp ctWp), slWp⟩)
    (cWp : PySem.W.codeIn K cdWp "wrong_parts" = true)
    (kWp : PySem.W.keepIn K (.ref fWp) = true)
    (aPa : PySem.W.nsIn K mainGlobals "_law_parts" = some (some (.ref fPa)))
    (lPa : K.lookup fPa = some ⟨ocPa, odPa, .func (PySem.W.fnOf "_law_parts" "_law_parts" (defArgs sPar) (defBody sPar) (defScope sPar) .none kVPa dcPa pmPa anPa cdPa ctPa), slPa⟩)
    (cPa : PySem.W.codeIn K cdPa "_law_parts" = true)
    (kPa : PySem.W.keepIn K (.ref fPa) = true)
    (aCe : PySem.W.nsIn K mainGlobals "_law_cells" = some (some (.ref fCe)))
    (lCe : K.lookup fCe = some ⟨ocCe, odCe, .func (PySem.W.fnOf "_law_cells" "_law_cells" (defArgs sCel) (defBody sCel) (defScope sCel) .none kVCe dcCe pmCe anCe cdCe ctCe), slCe⟩)
    (cCe : PySem.W.codeIn K cdCe "_law_cells" = true)
    (kCe : PySem.W.keepIn K (.ref fCe) = true)
    (aIm : PySem.W.nsIn K mainGlobals "is_member" = some (some (.ref fIm)))
    (lIm : K.lookup fIm = some ⟨ocIm, odIm, .func (PySem.W.fnOf "is_member" "is_member" (defArgs sIsM) (defBody sIsM) (defScope sIsM) .none kVIm dcIm pmIm anIm cdIm ctIm), slIm⟩)
    (cIm : PySem.W.codeIn K cdIm "is_member" = true)
    (kIm : PySem.W.keepIn K (.ref fIm) = true)
    (aCk : PySem.W.nsIn K mainGlobals "check_hurt" = some (some (.ref fCk)))
    (lCk : K.lookup fCk = some ⟨ocCk, odCk, .func (PySem.W.fnOf "check_hurt" "check_hurt" (defArgs sCkH) (defBody sCkH) (defScope sCkH) .none kVCk dcCk pmCk anCk cdCk ctCk), slCk⟩)
    (cCk : PySem.W.codeIn K cdCk "check_hurt" = true)
    (kCk : PySem.W.keepIn K (.ref fCk) = true)
    (aWb : PySem.W.nsIn K mainGlobals "wrong_blocks" = some (some (.ref fWb)))
    (lWb : K.lookup fWb = some ⟨ocWb, odWb, .func (PySem.W.fnOf "wrong_blocks" "wrong_blocks" (defArgs sWb) (defBody sWb) (defScope sWb) .none kVWb dcWb pmWb anWb cdWb ctWb), slWb⟩)
    (cWb : PySem.W.codeIn K cdWb "wrong_blocks" = true)
    (kWb : PySem.W.keepIn K (.ref fWb) = true)
    (aPk : PySem.W.nsIn K mainGlobals "_law_pick" = some (some (.ref fPk)))
    (lPk : K.lookup fPk = some ⟨ocPk, odPk, .func (PySem.W.fnOf "_law_pick" "_law_pick" (defArgs sPick) (defBody sPick) (defScope sPick) .none kVPk dcPk pmPk anPk cdPk ctPk), slPk⟩)
    (cPk : PySem.W.codeIn K cdPk "_law_pick" = true)
    (kPk : PySem.W.keepIn K (.ref fPk) = true)
    (aMm : PySem.W.nsIn K mainGlobals "_law_members" = some (some (.ref fMm)))
    (lMm : K.lookup fMm = some ⟨ocMm, odMm, .func (PySem.W.fnOf "_law_members" "_law_members" (defArgs sMms) (defBody sMms) (defScope sMms) .none kVMm dcMm pmMm anMm cdMm ctMm), slMm⟩)
    (cMm : PySem.W.codeIn K cdMm "_law_members" = true)
    (kMm : PySem.W.keepIn K (.ref fMm) = true)
    (aHe : PySem.W.nsIn K mainGlobals "_law_heard" = some (some (.ref fHe)))
    (lHe : K.lookup fHe = some ⟨ocHe, odHe, .func (PySem.W.fnOf "_law_heard" "_law_heard" (defArgs sHea) (defBody sHea) (defScope sHea) .none kVHe dcHe pmHe anHe cdHe ctHe), slHe⟩)
    (cHe : PySem.W.codeIn K cdHe "_law_heard" = true)
    (kHe : PySem.W.keepIn K (.ref fHe) = true)
    (aAr : PySem.W.nsIn K mainGlobals "_law_arrived_right" = some (some (.ref fAr)))
    (lAr : K.lookup fAr = some ⟨ocAr, odAr, .func (PySem.W.fnOf "_law_arrived_right" "_law_arrived_right" (defArgs sArr) (defBody sArr) (defScope sArr) .none kVAr dcAr pmAr anAr cdAr ctAr), slAr⟩)
    (cAr : PySem.W.codeIn K cdAr "_law_arrived_right" = true)
    (kAr : PySem.W.keepIn K (.ref fAr) = true)
    (aLn : PySem.W.nsIn K mainGlobals "_law_is_name" = some (some (.ref fLn)))
    (lLn : K.lookup fLn = some ⟨ocLn, odLn, .func (PySem.W.fnOf "_law_is_name" "_law_is_name" (defArgs sLin) (defBody sLin) (defScope sLin) .none kVLn dcLn pmLn anLn cdLn ctLn), slLn⟩)
    (cLn : PySem.W.codeIn K cdLn "_law_is_name" = true)
    (kLn : PySem.W.keepIn K (.ref fLn) = true)
    (aWi : PySem.W.nsIn K mainGlobals "_law_wide" = some (some (.ref fWi)))
    (lWi : K.lookup fWi = some ⟨ocWi, odWi, .func (PySem.W.fnOf "_law_wide" "_law_wide" (defArgs sWi) (defBody sWi) (defScope sWi) .none kVWi dcWi pmWi anWi cdWi ctWi), slWi⟩)
    (cWi : PySem.W.codeIn K cdWi "_law_wide" = true)
    (kWi : PySem.W.keepIn K (.ref fWi) = true)
    (aLw : PySem.W.nsIn K mainGlobals "law" = some (some (.ref fLw)))
    (lLw : K.lookup fLw = some ⟨ocLw, odLw, .func (PySem.W.fnOf "law" "law" (defArgs sLaw67) (defBody sLaw67) (defScope sLaw67) .none kVLw dcLw pmLw anLw cdLw ctLw), slLw⟩)
    (cLw : PySem.W.codeIn K cdLw "law" = true)
    (kLw : PySem.W.keepIn K (.ref fLw) = true)
    (agD : PySem.W.findIn K (.ref CF) "drivers" = some (some (.ref pgD)))
    (bgD : PySem.W.specialIn K (.ref pgD) "__get__" = some (some (.builtin "property.__get__")))
    (dgD : PySem.W.takesIn K (.ref pgD) = some true)
    (egD : PySem.W.recIn K pgD "property" = some (.ref fgD :: rsgD))
    (lgD : K.lookup fgD = some ⟨ocgD, odgD, .func (PySem.W.fnOf "drivers" "Frame.drivers" (defArgs (sFr 5)) (defBody (sFr 5)) (defScope (sFr 5)) .none kVgD dcgD pmgD angD cdgD ctgD), slgD⟩)
    (cgD : PySem.W.codeIn K cdgD "Frame.drivers" = true)
    (kgD : PySem.W.keepIn K (.ref fgD) = true)
    (agN : PySem.W.findIn K (.ref CF) "names" = some (some (.ref pgN)))
    (bgN : PySem.W.specialIn K (.ref pgN) "__get__" = some (some (.builtin "property.__get__")))
    (dgN : PySem.W.takesIn K (.ref pgN) = some true)
    (egN : PySem.W.recIn K pgN "property" = some (.ref fgN :: rsgN))
    (lgN : K.lookup fgN = some ⟨ocgN, odgN, .func (PySem.W.fnOf "names" "Frame.names" (defArgs (sFr 4)) (defBody (sFr 4)) (defScope (sFr 4)) .none kVgN dcgN pmgN angN cdgN ctgN), slgN⟩)
    (cgN : PySem.W.codeIn K cdgN "Frame.names" = true)
    (kgN : PySem.W.keepIn K (.ref fgN) = true)
    (agR : PySem.W.findIn K (.ref CF) "rails" = some (some (.ref pgR)))
    (bgR : PySem.W.specialIn K (.ref pgR) "__get__" = some (some (.builtin "property.__get__")))
    (dgR : PySem.W.takesIn K (.ref pgR) = some true)
    (egR : PySem.W.recIn K pgR "property" = some (.ref fgR :: rsgR))
    (lgR : K.lookup fgR = some ⟨ocgR, odgR, .func (PySem.W.fnOf "rails" "Frame.rails" (defArgs (sFr 7)) (defBody (sFr 7)) (defScope (sFr 7)) .none kVgR dcgR pmgR angR cdgR ctgR), slgR⟩)
    (cgR : PySem.W.codeIn K cdgR "Frame.rails" = true)
    (kgR : PySem.W.keepIn K (.ref fgR) = true)
    (agM : PySem.W.findIn K (.ref CF) "members" = some (some (.ref pgM)))
    (bgM : PySem.W.specialIn K (.ref pgM) "__get__" = some (some (.builtin "property.__get__")))
    (dgM : PySem.W.takesIn K (.ref pgM) = some true)
    (egM : PySem.W.recIn K pgM "property" = some (.ref fgM :: rsgM))
    (lgM : K.lookup fgM = some ⟨ocgM, odgM, .func (PySem.W.fnOf "members" "Frame.members" (defArgs (sFr 8)) (defBody (sFr 8)) (defScope (sFr 8)) .none kVgM dcgM pmgM angM cdgM ctgM), slgM⟩)
    (cgM : PySem.W.codeIn K cdgM "Frame.members" = true)
    (kgM : PySem.W.keepIn K (.ref fgM) = true)
    (amC : PySem.W.findIn K (.ref CF) "__contains__" = some (some (.ref fmC)))
    (imC : PySem.W.isFn K (.ref fmC) = true)
    (jmC : PySem.W.fnIn K fmC = true)
    (lmC : K.lookup fmC = some ⟨ocmC, odmC, .func (PySem.W.fnOf "__contains__" "Frame.__contains__" (defArgs (sFr 9)) (defBody (sFr 9)) (defScope (sFr 9)) .none kVmC dcmC pmmC anmC cdmC ctmC), slmC⟩)
    (cmC : PySem.W.codeIn K cdmC "Frame.__contains__" = true)
    (kmC : PySem.W.keepIn K (.ref fmC) = true)
    (amG : PySem.W.findIn K (.ref CF) "__getitem__" = some (some (.ref fmG)))
    (imG : PySem.W.isFn K (.ref fmG) = true)
    (jmG : PySem.W.fnIn K fmG = true)
    (lmG : K.lookup fmG = some ⟨ocmG, odmG, .func (PySem.W.fnOf "__getitem__" "Frame.__getitem__" (defArgs (sFr 10)) (defBody (sFr 10)) (defScope (sFr 10)) .none kVmG dcmG pmmG anmG cdmG ctmG), slmG⟩)
    (cmG : PySem.W.codeIn K cdmG "Frame.__getitem__" = true)
    (kmG : PySem.W.keepIn K (.ref fmG) = true)
    (amE : PySem.W.findIn K (.ref CF) "__eq__" = some (some (.ref fmE)))
    (imE : PySem.W.isFn K (.ref fmE) = true)
    (lmE : K.lookup fmE = some ⟨ocmE, odmE, .func (PySem.W.fnOf "__eq__" "Frame.__eq__" (defArgs (sFr 13)) (defBody (sFr 13)) (defScope (sFr 13)) .none kVmE dcmE pmmE anmE cdmE ctmE), slmE⟩)
    (cmE : PySem.W.codeIn K cdmE "Frame.__eq__" = true)
    (kmE : PySem.W.keepIn K (.ref fmE) = true)
    (amN : PySem.W.findIn K (.ref CF) "__len__" = some (some (.ref fmN)))
    (imN : PySem.W.isFn K (.ref fmN) = true)
    (jmN : PySem.W.fnIn K fmN = true)
    (lmN : K.lookup fmN = some ⟨ocmN, odmN, .func (PySem.W.fnOf "__len__" "Frame.__len__" (defArgs (sFr 12)) (defBody (sFr 12)) (defScope (sFr 12)) .none kVmN dcmN pmmN anmN cdmN ctmN), slmN⟩)
    (cmN : PySem.W.codeIn K cdmN "Frame.__len__" = true)
    (kmN : PySem.W.keepIn K (.ref fmN) = true)
    (aDvD : PySem.W.findIn K (.ref CD) "drives" = some (some (.ref pDvD)))
    (bDvD : PySem.W.specialIn K (.ref pDvD) "__get__" = some (some (.builtin "property.__get__")))
    (dDvD : PySem.W.takesIn K (.ref pDvD) = some true)
    (eDvD : PySem.W.recIn K pDvD "property" = some (.ref fDvD :: rsDvD))
    (lDvD : K.lookup fDvD = some ⟨ocDvD, odDvD, .func (PySem.W.fnOf "drives" "Driver.drives" (defArgs (sDrv 2)) (defBody (sDrv 2)) (defScope (sDrv 2)) .none kVDvD dcDvD pmDvD anDvD cdDvD ctDvD), slDvD⟩)
    (cDvD : PySem.W.codeIn K cdDvD "Driver.drives" = true)
    (kDvD : PySem.W.keepIn K (.ref fDvD) = true)
    (aDvS : PySem.W.findIn K (.ref CS) "drives" = some (some (.ref pDvS)))
    (bDvS : PySem.W.specialIn K (.ref pDvS) "__get__" = some (some (.builtin "property.__get__")))
    (dDvS : PySem.W.takesIn K (.ref pDvS) = some true)
    (eDvS : PySem.W.recIn K pDvS "property" = some (.ref fDvS :: rsDvS))
    (lDvS : K.lookup fDvS = some ⟨ocDvS, odDvS, .func (PySem.W.fnOf "drives" "Listener.drives" (defArgs (sLis 2)) (defBody (sLis 2)) (defScope (sLis 2)) .none kVDvS dcDvS pmDvS anDvS cdDvS ctDvS), slDvS⟩)
    (cDvS : PySem.W.codeIn K cdDvS "Listener.drives" = true)
    (kDvS : PySem.W.keepIn K (.ref fDvS) = true)
    (aEqD : PySem.W.findIn K (.ref CD) "__eq__" = some (some (.ref fEqD)))
    (iEqD : PySem.W.isFn K (.ref fEqD) = true)
    (lEqD : K.lookup fEqD = some ⟨ocEqD, odEqD, .func (PySem.W.fnOf "__eq__" "Driver.__eq__" (defArgs (sDrv 3)) (defBody (sDrv 3)) (defScope (sDrv 3)) .none kVEqD dcEqD pmEqD anEqD cdEqD ctEqD), slEqD⟩)
    (cEqD : PySem.W.codeIn K cdEqD "Driver.__eq__" = true)
    (kEqD : PySem.W.keepIn K (.ref fEqD) = true)
    (aEqS : PySem.W.findIn K (.ref CS) "__eq__" = some (some (.ref fEqS)))
    (iEqS : PySem.W.isFn K (.ref fEqS) = true)
    (lEqS : K.lookup fEqS = some ⟨ocEqS, odEqS, .func (PySem.W.fnOf "__eq__" "Listener.__eq__" (defArgs (sLis 3)) (defBody (sLis 3)) (defScope (sLis 3)) .none kVEqS dcEqS pmEqS anEqS cdEqS ctEqS), slEqS⟩)
    (cEqS : PySem.W.codeIn K cdEqS "Listener.__eq__" = true)
    (kEqS : PySem.W.keepIn K (.ref fEqS) = true)
    (awI : PySem.W.findIn K (.ref CW) "__init__" = some (some (.ref fwI)))
    (iwI : PySem.W.isFn K (.ref fwI) = true)
    (lwI : K.lookup fwI = some ⟨ocwI, odwI, .func (PySem.W.fnOf "__init__" "Word.__init__" (defArgs (sWd 0)) (defBody (sWd 0)) (defScope (sWd 0)) .none kVwI dcwI pmwI anwI cdwI ctwI), slwI⟩)
    (cwI : PySem.W.codeIn K cdwI "Word.__init__" = true)
    (kwI : PySem.W.keepIn K (.ref fwI) = true)
    (awG : PySem.W.findIn K (.ref CW) "__getitem__" = some (some (.ref fwG)))
    (iwG : PySem.W.isFn K (.ref fwG) = true)
    (jwG : PySem.W.fnIn K fwG = true)
    (lwG : K.lookup fwG = some ⟨ocwG, odwG, .func (PySem.W.fnOf "__getitem__" "Word.__getitem__" (defArgs (sWd 5)) (defBody (sWd 5)) (defScope (sWd 5)) .none kVwG dcwG pmwG anwG cdwG ctwG), slwG⟩)
    (cwG : PySem.W.codeIn K cdwG "Word.__getitem__" = true)
    (kwG : PySem.W.keepIn K (.ref fwG) = true)
    (awQ : PySem.W.findIn K (.ref CW) "__eq__" = some (some (.ref fwQ)))
    (iwQ : PySem.W.isFn K (.ref fwQ) = true)
    (lwQ : K.lookup fwQ = some ⟨ocwQ, odwQ, .func (PySem.W.fnOf "__eq__" "Word.__eq__" (defArgs (sWd 8)) (defBody (sWd 8)) (defScope (sWd 8)) .none kVwQ dcwQ pmwQ anwQ cdwQ ctwQ), slwQ⟩)
    (cwQ : PySem.W.codeIn K cdwQ "Word.__eq__" = true)
    (kwQ : PySem.W.keepIn K (.ref fwQ) = true)
    (awO : PySem.W.findCls K (.ref CW) mcW "of" = some (.get (.builtin "classmethod.__get__") (.ref pwO) .none (.ref CW)))
    (rwO : PySem.W.recIn K pwO "classmethod" = some (.ref fwO :: rswO))
    (jwO : PySem.W.fnIn K fwO = true)
    (lwO : K.lookup fwO = some ⟨ocwO, odwO, .func (PySem.W.fnOf "of" "Word.of" (defArgs (sWd 1)) (defBody (sWd 1)) (defScope (sWd 1)) .none kVwO dcwO pmwO anwO cdwO ctwO), slwO⟩)
    (cwO : PySem.W.codeIn K cdwO "Word.of" = true)
    (kwO : PySem.W.keepIn K (.ref fwO) = true)
    (awR : PySem.W.findCls K (.ref CW) mcW "rest" = some (.get (.builtin "classmethod.__get__") (.ref pwR) .none (.ref CW)))
    (rwR : PySem.W.recIn K pwR "classmethod" = some (.ref fwR :: rswR))
    (jwR : PySem.W.fnIn K fwR = true)
    (lwR : K.lookup fwR = some ⟨ocwR, odwR, .func (PySem.W.fnOf "rest" "Word.rest" (defArgs (sWd 2)) (defBody (sWd 2)) (defScope (sWd 2)) .none kVwR dcwR pmwR anwR cdwR ctwR), slwR⟩)
    (cwR : PySem.W.codeIn K cdwR "Word.rest" = true)
    (kwR : PySem.W.keepIn K (.ref fwR) = true)
    (acI : PySem.W.findIn K (.ref CC) "__init__" = some (some (.ref fcI)))
    (icI : PySem.W.isFn K (.ref fcI) = true)
    (lcI : K.lookup fcI = some ⟨occI, odcI, .func (PySem.W.fnOf "__init__" "Chain.__init__" (defArgs sChI) (defBody sChI) (defScope sChI) .none kVcI dccI pmcI ancI cdcI ctcI), slcI⟩)
    (ccI : PySem.W.codeIn K cdcI "Chain.__init__" = true)
    (kcI : PySem.W.keepIn K (.ref fcI) = true)
    (acO : PySem.W.findCls K (.ref CC) mcC "of" = some (.get (.builtin "classmethod.__get__") (.ref pcO) .none (.ref CC)))
    (rcO : PySem.W.recIn K pcO "classmethod" = some (.ref fcO :: rscO))
    (jcO : PySem.W.fnIn K fcO = true)
    (lcO : K.lookup fcO = some ⟨occO, odcO, .func (PySem.W.fnOf "of" "Chain.of" (defArgs sChO) (defBody sChO) (defScope sChO) .none kVcO dccO pmcO ancO cdcO ctcO), slcO⟩)
    (ccO : PySem.W.codeIn K cdcO "Chain.of" = true)
    (kcO : PySem.W.keepIn K (.ref fcO) = true)
    (acC : PySem.W.findIn K (.ref CC) "cells" = some (some (.ref pcC)))
    (bcC : PySem.W.specialIn K (.ref pcC) "__get__" = some (some (.builtin "property.__get__")))
    (dcC : PySem.W.takesIn K (.ref pcC) = some true)
    (ecC : PySem.W.recIn K pcC "property" = some (.ref fcC :: rscC))
    (lcC : K.lookup fcC = some ⟨occC, odcC, .func (PySem.W.fnOf "cells" "Chain.cells" (defArgs sChC) (defBody sChC) (defScope sChC) .none kVcC dccC pmcC ancC cdcC ctcC), slcC⟩)
    (ccC : PySem.W.codeIn K cdcC "Chain.cells" = true)
    (kcC : PySem.W.keepIn K (.ref fcC) = true)
    (acN : PySem.W.findIn K (.ref CC) "entering" = some (some (.ref fcN)))
    (icN : PySem.W.isFn K (.ref fcN) = true)
    (jcN : PySem.W.fnIn K fcN = true)
    (lcN : K.lookup fcN = some ⟨occN, odcN, .func (PySem.W.fnOf "entering" "Chain.entering" (defArgs sChN) (defBody sChN) (defScope sChN) .none kVcN dccN pmcN ancN cdcN ctcN), slcN⟩)
    (ccN : PySem.W.codeIn K cdcN "Chain.entering" = true)
    (kcN : PySem.W.keepIn K (.ref fcN) = true)
    (acA : PySem.W.findIn K (.ref CC) "arrived" = some (some (.ref fcA)))
    (icA : PySem.W.isFn K (.ref fcA) = true)
    (jcA : PySem.W.fnIn K fcA = true)
    (lcA : K.lookup fcA = some ⟨occA, odcA, .func (PySem.W.fnOf "arrived" "Chain.arrived" (defArgs sChA) (defBody sChA) (defScope sChA) .none kVcA dccA pmcA ancA cdcA ctcA), slcA⟩)
    (ccA : PySem.W.codeIn K cdcA "Chain.arrived" = true)
    (kcA : PySem.W.keepIn K (.ref fcA) = true)
    (acL : PySem.W.findIn K (.ref CC) "__len__" = some (some (.ref fcL)))
    (icL : PySem.W.isFn K (.ref fcL) = true)
    (jcL : PySem.W.fnIn K fcL = true)
    (lcL : K.lookup fcL = some ⟨occL, odcL, .func (PySem.W.fnOf "__len__" "Chain.__len__" (defArgs sChL) (defBody sChL) (defScope sChL) .none kVcL dccL pmcL ancL cdcL ctcL), slcL⟩)
    (ccL : PySem.W.codeIn K cdcL "Chain.__len__" = true)
    (kcL : PySem.W.keepIn K (.ref fcL) = true)
    (ahI : PySem.W.findIn K (.ref CH) "__init__" = some (some (.ref fhI)))
    (ihI : PySem.W.isFn K (.ref fhI) = true)
    (lhI : K.lookup fhI = some ⟨ochI, odhI, .func (PySem.W.fnOf "__init__" "Hurt.__init__" (defArgs sHuI) (defBody sHuI) (defScope sHuI) .none kVhI dchI pmhI anhI cdhI cthI), slhI⟩)
    (chI : PySem.W.codeIn K cdhI "Hurt.__init__" = true)
    (khI : PySem.W.keepIn K (.ref fhI) = true)
    (ahL : PySem.W.findIn K (.ref CH) "link" = some (some (.ref phL)))
    (bhL : PySem.W.specialIn K (.ref phL) "__get__" = some (some (.builtin "property.__get__")))
    (dhL : PySem.W.takesIn K (.ref phL) = some true)
    (ehL : PySem.W.recIn K phL "property" = some (.ref fhL :: rshL))
    (lhL : K.lookup fhL = some ⟨ochL, odhL, .func (PySem.W.fnOf "link" "Hurt.link" (defArgs sHuL) (defBody sHuL) (defScope sHuL) .none kVhL dchL pmhL anhL cdhL cthL), slhL⟩)
    (chL : PySem.W.codeIn K cdhL "Hurt.link" = true)
    (khL : PySem.W.keepIn K (.ref fhL) = true)
    (ahQ : PySem.W.findIn K (.ref CH) "__eq__" = some (some (.ref fhQ)))
    (ihQ : PySem.W.isFn K (.ref fhQ) = true)
    (lhQ : K.lookup fhQ = some ⟨ochQ, odhQ, .func (PySem.W.fnOf "__eq__" "Hurt.__eq__" (defArgs sHuQ) (defBody sHuQ) (defScope sHuQ) .none kVhQ dchQ pmhQ anhQ cdhQ cthQ), slhQ⟩)
    (chQ : PySem.W.codeIn K cdhQ "Hurt.__eq__" = true)
    (khQ : PySem.W.keepIn K (.ref fhQ) = true)
    (ahS : PySem.W.findIn K (.ref CH) "__str__" = some (some (.ref fhS)))
    (ihS : PySem.W.isFn K (.ref fhS) = true)
    (lhS : K.lookup fhS = some ⟨ochS, odhS, .func (PySem.W.fnOf "__str__" "Hurt.__str__" (defArgs sHuS) (defBody sHuS) (defScope sHuS) .none kVhS dchS pmhS anhS cdhS cthS), slhS⟩)
    (chS : PySem.W.codeIn K cdhS "Hurt.__str__" = true)
    (khS : PySem.W.keepIn K (.ref fhS) = true)
    (abI : PySem.W.findIn K (.ref CB) "__init__" = some (some (.ref fbI)))
    (ibI : PySem.W.isFn K (.ref fbI) = true)
    (lbI : K.lookup fbI = some ⟨ocbI, odbI, .func (PySem.W.fnOf "__init__" "Board.__init__" (defArgs sBoI) (defBody sBoI) (defScope sBoI) .none kVbI dcbI pmbI anbI cdbI ctbI), slbI⟩)
    (cbI : PySem.W.codeIn K cdbI "Board.__init__" = true)
    (kbI : PySem.W.keepIn K (.ref fbI) = true)
    (aFI : PySem.W.findIn K (.ref CF) "__init__" = some (some (.ref fFI)))
    (iFI : PySem.W.isFn K (.ref fFI) = true)
    (lFI : K.lookup fFI = some ⟨ocFI, odFI, .func (PySem.W.fnOf "__init__" "Frame.__init__" (defArgs sFrI) (defBody sFrI) (defScope sFrI) .none (.ref DFI) dcFI pmFI anFI cdFI ctFI), slFI⟩)
    (cFI : PySem.W.codeIn K cdFI "Frame.__init__" = true)
    (kFI : PySem.W.keepIn K (.ref fFI) = true)
    (n1FI : PySem.W.nsIn K DFI "top" = some (some x1FI))
    (r1FI : RelV (.int 1) x1FI)
    (n2FI : PySem.W.nsIn K DFI "ground" = some (some x2FI))
    (r2FI : RelV (.bl false) x2FI)
    (n3FI : PySem.W.nsIn K DFI "power" = some (some x3FI))
    (r3FI : RelV (.bl false) x3FI)
    (tyF : PySem.W.typeIn K (.ref CF) = some mcF)
    (rdF : PySem.W.readsIn K CF mcF = true)
    (gaF : PySem.W.specialIn K (.ref CF) "__getattribute__" = some (some (.builtin "type.__getattribute__")))
    (moF : PySem.W.findCls K (.ref CF) mcF "MOST" = some (.val uM))
    (rmF : RelV (.int 40) uM)
    (aO : PySem.W.findCls K (.ref CF) mcF "of" = some (.get (.builtin "classmethod.__get__") (.ref pO) .none (.ref CF)))
    (rO : PySem.W.recIn K pO "classmethod" = some (.ref fO :: rsO))
    (fO_ : PySem.W.fnIn K fO = true)
    (lO : K.lookup fO = some ⟨ocO, odO, .func (PySem.W.fnOf "of" "Frame.of" (defArgs sOf) (defBody sOf) (defScope sOf) .none (.ref DO) dcO pmO anO cdO ctO), slO⟩)
    (cO : PySem.W.codeIn K cdO "Frame.of" = true)
    (kO : PySem.W.keepIn K (.ref fO) = true)
    (n1O : PySem.W.nsIn K DO "top" = some (some x1O))
    (r1O : RelV (.int 1) x1O)
    (n2O : PySem.W.nsIn K DO "ground" = some (some x2O))
    (r2O : RelV (.bl false) x2O)
    (n3O : PySem.W.nsIn K DO "power" = some (some x3O))
    (r3O : RelV (.bl false) x3O)
    (aBE : PySem.W.findIn K (.ref CE) "__init__" = some (some (.ref fBE)))
    (iBE : PySem.W.isFn K (.ref fBE) = true)
    (lBE : K.lookup fBE = some ⟨ocBE, odBE, .func (PySem.W.fnOf "__init__" "Bench.__init__" (defArgs sBeI) (defBody sBeI) (defScope sBeI) (.ref TE) kVBE dcBE pmBE anBE cdBE ctBE), slBE⟩)
    (cBE : PySem.W.codeIn K cdBE "Bench.__init__" = true)
    (kBE : PySem.W.keepIn K (.ref fBE) = true)
    (tBE : K.lookup TE = some ⟨eTE, ddE, .seq itE nTE, scE⟩)
    (vBE : Vals [V.non] itE.toList)
    (aIE : PySem.W.findIn K (.ref CI) "__init__" = some (some (.ref fIE)))
    (iIE : PySem.W.isFn K (.ref fIE) = true)
    (tIE : PySem.W.typeIn K (.ref fIE) = some (.type "function"))
    (lIE : K.lookup fIE = some ⟨ocIE, odIE, .func (PySem.W.fnX "__init__" "InvalidFrame.__init__" (defArgs sInv) (defBody sInv) (defScope sInv) [("__class__", yIE)] .none kVIE dcIE pmIE anIE (.ref xIE) ctIE), slIE⟩)
    (cIE : PySem.W.codeIn K (.ref xIE) "InvalidFrame.__init__" = true)
    (mIE : K.lookup xIE = some ⟨u1IE, v1IE, .fields vsIE, w1IE⟩)
    (nIE : vsIE[2]? = some (.str flIE tfIE))
    (pIE : ((P.main.file : Str) == flIE) = true)
    (qIE : K.lookup yIE = some ⟨u2IE, v2IE, .cell (some (.ref CI)), w2IE⟩)
    (kIE : PySem.W.keepIn K (.ref fIE) = true)
    (aIU : PySem.W.findIn K (.ref CU) "__init__" = some (some (.ref fIU)))
    (iIU : PySem.W.isFn K (.ref fIU) = true)
    (tIU : PySem.W.typeIn K (.ref fIU) = some (.type "function"))
    (lIU : K.lookup fIU = some ⟨ocIU, odIU, .func (PySem.W.fnX "__init__" "InvalidHurt.__init__" (defArgs sIvH) (defBody sIvH) (defScope sIvH) [("__class__", yIU)] .none kVIU dcIU pmIU anIU (.ref xIU) ctIU), slIU⟩)
    (cIU : PySem.W.codeIn K (.ref xIU) "InvalidHurt.__init__" = true)
    (mIU : K.lookup xIU = some ⟨u1IU, v1IU, .fields vsIU, w1IU⟩)
    (nIU : vsIU[2]? = some (.str flIU tfIU))
    (pIU : ((P.main.file : Str) == flIU) = true)
    (qIU : K.lookup yIU = some ⟨u2IU, v2IU, .cell (some (.ref CU)), w2IU⟩)
    (kIU : PySem.W.keepIn K (.ref fIU) = true)
    (aIV : PySem.W.findIn K (.ref CV) "__init__" = some (some (.ref fIV)))
    (iIV : PySem.W.isFn K (.ref fIV) = true)
    (tIV : PySem.W.typeIn K (.ref fIV) = some (.type "function"))
    (lIV : K.lookup fIV = some ⟨ocIV, odIV, .func (PySem.W.fnX "__init__" "InvalidBoard.__init__" (defArgs sIvB) (defBody sIvB) (defScope sIvB) [("__class__", yIV)] .none kVIV dcIV pmIV anIV (.ref xIV) ctIV), slIV⟩)
    (cIV : PySem.W.codeIn K (.ref xIV) "InvalidBoard.__init__" = true)
    (mIV : K.lookup xIV = some ⟨u1IV, v1IV, .fields vsIV, w1IV⟩)
    (nIV : vsIV[2]? = some (.str flIV tfIV))
    (pIV : ((P.main.file : Str) == flIV) = true)
    (qIV : K.lookup yIV = some ⟨u2IV, v2IV, .cell (some (.ref CV)), w2IV⟩)
    (kIV : PySem.W.keepIn K (.ref fIV) = true)
    (aDI : PySem.W.findIn K (.ref CD) "__init__" = some (some (.ref fDI)))
    (iDI : PySem.W.isFn K (.ref fDI) = true)
    (tDI : PySem.W.typeIn K (.ref fDI) = some (.type "function"))
    (lDI : K.lookup fDI = some ⟨ocDI, odDI, .func (PySem.W.fnX "__init__" "Driver.__init__" (defArgs sDrvI) (defBody sDrvI) (defScope sDrvI) [("__class__", yDI)] .none kVDI dcDI pmDI anDI (.ref xDI) ctDI), slDI⟩)
    (cDI : PySem.W.codeIn K (.ref xDI) "Driver.__init__" = true)
    (mDI : K.lookup xDI = some ⟨u1DI, v1DI, .fields vsDI, w1DI⟩)
    (nDI : vsDI[2]? = some (.str flDI tfDI))
    (pDI : ((P.main.file : Str) == flDI) = true)
    (qDI : K.lookup yDI = some ⟨u2DI, v2DI, .cell (some (.ref CD)), w2DI⟩)
    (kDI : PySem.W.keepIn K (.ref fDI) = true)
    (aSI : PySem.W.findIn K (.ref CS) "__init__" = some (some (.ref fSI)))
    (iSI : PySem.W.isFn K (.ref fSI) = true)
    (tSI : PySem.W.typeIn K (.ref fSI) = some (.type "function"))
    (lSI : K.lookup fSI = some ⟨ocSI, odSI, .func (PySem.W.fnX "__init__" "Listener.__init__" (defArgs sLisI) (defBody sLisI) (defScope sLisI) [("__class__", ySI)] .none kVSI dcSI pmSI anSI (.ref xSI) ctSI), slSI⟩)
    (cSI : PySem.W.codeIn K (.ref xSI) "Listener.__init__" = true)
    (mSI : K.lookup xSI = some ⟨u1SI, v1SI, .fields vsSI, w1SI⟩)
    (nSI : vsSI[2]? = some (.str flSI tfSI))
    (pSI : ((P.main.file : Str) == flSI) = true)
    (qSI : K.lookup ySI = some ⟨u2SI, v2SI, .cell (some (.ref CS)), w2SI⟩)
    (kSI : PySem.W.keepIn K (.ref fSI) = true)
    (top_ : (P.main.scope.names.lookup ("super" : Str)).isSome = false)
    (third : PySem.W.nsIn K cStatics "thirdparty.any" = some none)
    (clsCI : PySem.W.clsIn K CI = some cdCI)
    (mrCI : PySem.W.mroIn K CI (.ref CI) = some true)
    (clsCD : PySem.W.clsIn K CD = some cdCD)
    (mrCD : PySem.W.mroIn K CD (.ref CD) = some true)
    (clsCS : PySem.W.clsIn K CS = some cdCS)
    (mrCS : PySem.W.mroIn K CS (.ref CS) = some true)
    (clsCL : PySem.W.clsIn K CL = some cdCL)
    (mrCL : PySem.W.mroIn K CL (.ref CL) = some true)
    (clsCU : PySem.W.clsIn K CU = some cdCU)
    (mrCU : PySem.W.mroIn K CU (.ref CU) = some true)
    (clsCV : PySem.W.clsIn K CV = some cdCV)
    (mrCV : PySem.W.mroIn K CV (.ref CV) = some true)
    (exL : K.lookup CI = some (excClassObj nm q CI Ns bs bm true sn sub ab col dd k0 k1 k2 k3 k5 "ValueError.__new__"))
    (exR : PySem.HandSPX.refsVE bm = true)
    (exS : PySem.W.findIn K (.ref CI) "__setattr__" = some (some (.builtin "object.__setattr__")))
    (exB : PySem.W.subIn K (.ref CI) (.type "BaseException") = some true)
    (exV : PySem.W.subIn K (.ref CI) (.type "ValueError") = some true)
    (exT : PySem.W.typeIn K (.ref CI) = some (.type "type"))
    (exK : PySem.W.keepIn K (.ref CI) = true)
    (exN : PySem.W.findIn K (.ref CI) "reason" = some none)
    (exU : PySem.W.ks_superIn K CI CI "__init__" = some (some (.builtin "ValueError.__init__")))
    (exVL : K.lookup CV = some (excClassObj nm2 q2 CV Ns2 bs2 bm2 true sn2 sub2 ab2 col2 dd2 k02 k12 k22 k32 k52 "ValueError.__new__"))
    (exVR : PySem.HandSPX.refsVE bm2 = true)
    (exVS : PySem.W.findIn K (.ref CV) "__setattr__" = some (some (.builtin "object.__setattr__")))
    (exVB : PySem.W.subIn K (.ref CV) (.type "BaseException") = some true)
    (exVV : PySem.W.subIn K (.ref CV) (.type "ValueError") = some true)
    (exVT : PySem.W.typeIn K (.ref CV) = some (.type "type"))
    (exVK : PySem.W.keepIn K (.ref CV) = true)
    (exVN : PySem.W.findIn K (.ref CV) "reason" = some none)
    (exVU : PySem.W.ks_superIn K CV CV "__init__" = some (some (.builtin "ValueError.__init__")))
    (gaV : PySem.W.findIn K (.ref CV) "__getattribute__" = some (some (.builtin "BaseException.__getattribute__")))
    (ggV : PySem.W.findIn K (.ref CV) "__getattr__" = some none)
    (hdV : PySem.W.hasDictIn K CV = true)
    (caV : PySem.W.findIn K (.ref CV) "__class__" = some (some (.builtin "object.__class__")))
    (obV : PySem.W.mroIn K CV (.type "object") = some true)
    (xmV : PySem.W.exmOne K (.ref CV) (.ref CJ) = some true)
    (kiV : PySem.W.kitOne K (.ref CV) (.ref CV) = some true)
    (exUL : K.lookup CU = some (excClassObj nm3 q3 CU Ns3 bs3 bm3 true sn3 sub3 ab3 col3 dd3 k03 k13 k23 k33 k53 "ValueError.__new__"))
    (exUR : PySem.HandSPX.refsVE bm3 = true)
    (exUS : PySem.W.findIn K (.ref CU) "__setattr__" = some (some (.builtin "object.__setattr__")))
    (exUB : PySem.W.subIn K (.ref CU) (.type "BaseException") = some true)
    (exUV : PySem.W.subIn K (.ref CU) (.type "ValueError") = some true)
    (exUT : PySem.W.typeIn K (.ref CU) = some (.type "type"))
    (exUK : PySem.W.keepIn K (.ref CU) = true)
    (exUN : PySem.W.findIn K (.ref CU) "reason" = some none)
    (exUU : PySem.W.ks_superIn K CU CU "__init__" = some (some (.builtin "ValueError.__init__")))
    (gaU : PySem.W.findIn K (.ref CU) "__getattribute__" = some (some (.builtin "BaseException.__getattribute__")))
    (ggU : PySem.W.findIn K (.ref CU) "__getattr__" = some none)
    (hdU : PySem.W.hasDictIn K CU = true)
    (caU : PySem.W.findIn K (.ref CU) "__class__" = some (some (.builtin "object.__class__")))
    (obU : PySem.W.mroIn K CU (.type "object") = some true)
    (xmU : PySem.W.exmOne K (.ref CU) (.ref CJ) = some true)
    (kiU : PySem.W.kitOne K (.ref CU) (.ref CU) = some true)
    (kiUE : PySem.W.kitOne K (.ref CU) (.type "ValueError") = some true)
    (kiUV : PySem.W.kitOne K (.ref CU) (.ref CV) = some false)
    (kiVU : PySem.W.kitOne K (.ref CV) (.ref CU) = some false)
    (fnLI : PySem.W.fnIn K fLI = true)
    (tyLI : PySem.W.typeIn K (.ref fLI) = some (.type "function"))
    (suCD : PySem.W.ks_superIn K CD CD "__init__" = some (some (.ref fLI)))
    (suCS : PySem.W.ks_superIn K CS CS "__init__" = some (some (.ref fLI)))
    (pgCD : PySem.W.plainGet K CD Str.empty = true)
    (hdCD : PySem.W.hasDictIn K CD = true)
    (poCD : PySem.W.plainOver K CD = true)
    (saCD : PySem.W.findIn K (.ref CD) "__setattr__" = some (some (.builtin "object.__setattr__")))
    (mkCD : PySem.W.makesIn K CD = true)
    (kcCD : PySem.W.keepIn K (.ref CD) = true)
    (caCD : PySem.W.findIn K (.ref CD) "__class__" = some (some (.builtin "object.__class__")))
    (obCD : PySem.W.mroIn K CD (.type "object") = some true)
    (neCD : PySem.W.findIn K (.ref CD) "__ne__" = some (some (.builtin "object.__ne__")))
    (nnCD : PySem.W.findIn K (.ref CD) "name" = some none)
    (pgCS : PySem.W.plainGet K CS Str.empty = true)
    (hdCS : PySem.W.hasDictIn K CS = true)
    (poCS : PySem.W.plainOver K CS = true)
    (saCS : PySem.W.findIn K (.ref CS) "__setattr__" = some (some (.builtin "object.__setattr__")))
    (mkCS : PySem.W.makesIn K CS = true)
    (kcCS : PySem.W.keepIn K (.ref CS) = true)
    (caCS : PySem.W.findIn K (.ref CS) "__class__" = some (some (.builtin "object.__class__")))
    (obCS : PySem.W.mroIn K CS (.type "object") = some true)
    (neCS : PySem.W.findIn K (.ref CS) "__ne__" = some (some (.builtin "object.__ne__")))
    (nnCS : PySem.W.findIn K (.ref CS) "name" = some none)
    (pgCF : PySem.W.plainGet K CF Str.empty = true)
    (hdCF : PySem.W.hasDictIn K CF = true)
    (poCF : PySem.W.plainOver K CF = true)
    (saCF : PySem.W.findIn K (.ref CF) "__setattr__" = some (some (.builtin "object.__setattr__")))
    (mkCF : PySem.W.makesIn K CF = true)
    (kcCF : PySem.W.keepIn K (.ref CF) = true)
    (caCF : PySem.W.findIn K (.ref CF) "__class__" = some (some (.builtin "object.__class__")))
    (obCF : PySem.W.mroIn K CF (.type "object") = some true)
    (neCF : PySem.W.findIn K (.ref CF) "__ne__" = some (some (.builtin "object.__ne__")))
    (pgCW : PySem.W.plainGet K CW Str.empty = true)
    (hdCW : PySem.W.hasDictIn K CW = true)
    (poCW : PySem.W.plainOver K CW = true)
    (saCW : PySem.W.findIn K (.ref CW) "__setattr__" = some (some (.builtin "object.__setattr__")))
    (mkCW : PySem.W.makesIn K CW = true)
    (kcCW : PySem.W.keepIn K (.ref CW) = true)
    (caCW : PySem.W.findIn K (.ref CW) "__class__" = some (some (.builtin "object.__class__")))
    (obCW : PySem.W.mroIn K CW (.type "object") = some true)
    (neCW : PySem.W.findIn K (.ref CW) "__ne__" = some (some (.builtin "object.__ne__")))
    (pgCC : PySem.W.plainGet K CC Str.empty = true)
    (hdCC : PySem.W.hasDictIn K CC = true)
    (poCC : PySem.W.plainOver K CC = true)
    (saCC : PySem.W.findIn K (.ref CC) "__setattr__" = some (some (.builtin "object.__setattr__")))
    (mkCC : PySem.W.makesIn K CC = true)
    (kcCC : PySem.W.keepIn K (.ref CC) = true)
    (caCC : PySem.W.findIn K (.ref CC) "__class__" = some (some (.builtin "object.__class__")))
    (obCC : PySem.W.mroIn K CC (.type "object") = some true)
    (pgCH : PySem.W.plainGet K CH Str.empty = true)
    (hdCH : PySem.W.hasDictIn K CH = true)
    (poCH : PySem.W.plainOver K CH = true)
    (saCH : PySem.W.findIn K (.ref CH) "__setattr__" = some (some (.builtin "object.__setattr__")))
    (mkCH : PySem.W.makesIn K CH = true)
    (kcCH : PySem.W.keepIn K (.ref CH) = true)
    (caCH : PySem.W.findIn K (.ref CH) "__class__" = some (some (.builtin "object.__class__")))
    (obCH : PySem.W.mroIn K CH (.type "object") = some true)
    (neCH : PySem.W.findIn K (.ref CH) "__ne__" = some (some (.builtin "object.__ne__")))
    (nnCH : PySem.W.findIn K (.ref CH) "name" = some none)
    (pgCB : PySem.W.plainGet K CB Str.empty = true)
    (hdCB : PySem.W.hasDictIn K CB = true)
    (poCB : PySem.W.plainOver K CB = true)
    (saCB : PySem.W.findIn K (.ref CB) "__setattr__" = some (some (.builtin "object.__setattr__")))
    (mkCB : PySem.W.makesIn K CB = true)
    (kcCB : PySem.W.keepIn K (.ref CB) = true)
    (caCB : PySem.W.findIn K (.ref CB) "__class__" = some (some (.builtin "object.__class__")))
    (obCB : PySem.W.mroIn K CB (.type "object") = some true)
    (pgCE : PySem.W.plainGet K CE Str.empty = true)
    (hdCE : PySem.W.hasDictIn K CE = true)
    (poCE : PySem.W.plainOver K CE = true)
    (saCE : PySem.W.findIn K (.ref CE) "__setattr__" = some (some (.builtin "object.__setattr__")))
    (mkCE : PySem.W.makesIn K CE = true)
    (kcCE : PySem.W.keepIn K (.ref CE) = true)
    (caCE : PySem.W.findIn K (.ref CE) "__class__" = some (some (.builtin "object.__class__")))
    (obCE : PySem.W.mroIn K CE (.type "object") = some true)
    (nwframe : PySem.W.findIn K (.ref CW) "frame" = some none)
    (nw_levels : PySem.W.findIn K (.ref CW) "_levels" = some none)
    (ncframe : PySem.W.findIn K (.ref CC) "frame" = some none)
    (ncparts : PySem.W.findIn K (.ref CC) "parts" = some none)
    (nh_link : PySem.W.findIn K (.ref CH) "_link" = some none)
    (nbframe : PySem.W.findIn K (.ref CB) "frame" = some none)
    (nb_blocks : PySem.W.findIn K (.ref CB) "_blocks" = some none)
    (nb_homes : PySem.W.findIn K (.ref CB) "_homes" = some none)
    (ne_chain : PySem.W.findIn K (.ref CE) "_chain" = some none)
    (ne_board : PySem.W.findIn K (.ref CE) "_board" = some none)
    (ne_hurt : PySem.W.findIn K (.ref CE) "_hurt" = some none)
    (ne_state : PySem.W.findIn K (.ref CE) "_state" = some none)
    (nf_legs : PySem.W.findIn K (.ref CF) "_legs" = some none)
    (nftop : PySem.W.findIn K (.ref CF) "top" = some none)
    (nfground : PySem.W.findIn K (.ref CF) "ground" = some none)
    (nfpower : PySem.W.findIn K (.ref CF) "power" = some none)
    (cn : PySem.W.specialIn K (.builtin "object.__class__") "__get__" = some (some (.builtin "getset_descriptor.__get__")))
    (ct : PySem.W.takesIn K (.builtin "object.__class__") = some true)
    (kdd : PySem.W.kitAny K (.ref CD) [.ref CD, .ref CS] = some true)
    (kii : PySem.W.kitAny K (.ref CS) [.ref CD, .ref CS] = some true)
    (klt : PySem.W.kitAny K (.type "list") [.type "list", .type "tuple"] = some true)
    (ktt : PySem.W.kitAny K (.type "tuple") [.type "list", .type "tuple"] = some true)
    (kkCDCD : PySem.W.kitOne K (.ref CD) (.ref CD) = some true)
    (kkCSCS : PySem.W.kitOne K (.ref CS) (.ref CS) = some true)
    (kkCFCF : PySem.W.kitOne K (.ref CF) (.ref CF) = some true)
    (kkCWCW : PySem.W.kitOne K (.ref CW) (.ref CW) = some true)
    (kkCHCH : PySem.W.kitOne K (.ref CH) (.ref CH) = some true)
    (kkCDCS : PySem.W.kitOne K (.ref CD) (.ref CS) = some false)
    (kkCSCD : PySem.W.kitOne K (.ref CS) (.ref CD) = some false)
    (nfCDCD : PySem.W.notFirst K CD (.ref CD) = true)
    (nfCDCS : PySem.W.notFirst K CD (.ref CS) = true)
    (nfCSCD : PySem.W.notFirst K CS (.ref CD) = true)
    (nfCSCS : PySem.W.notFirst K CS (.ref CS) = true)
    (nfCFCF : PySem.W.notFirst K CF (.ref CF) = true)
    (nfCWCW : PySem.W.notFirst K CW (.ref CW) = true)
    (nfCHCH : PySem.W.notFirst K CH (.ref CH) = true)
    (neDS : CD ≠ CS)
    (wf1 : CW ≠ CF)
    (wf2 : CW ≠ CD)
    (wf3 : CW ≠ CS)
    (nfHT : PySem.W.notFirst K CH (.type "tuple") = true)
    (koHT : PySem.W.kitOne K (.type "tuple") (.ref CH) = some false)
    (nfHS : PySem.W.notFirst K CH (.type "str") = true)
    (koHS : PySem.W.kitOne K (.type "str") (.ref CH) = some false)
    (nfHN : PySem.W.notFirst K CH (.type "NoneType") = true)
    (koHN : PySem.W.kitOne K (.type "NoneType") (.ref CH) = some false)
    (aHr : PySem.W.nsIn K mainGlobals "_law_hurt_right" = some (some (.ref fHr)))
    (lHr : K.lookup fHr = some ⟨ocHr, odHr, .func (PySem.W.fnOf "_law_hurt_right" "_law_hurt_right" (defArgs sHr) (defBody sHr) (defScope sHr) .none kVHr dcHr pmHr anHr (.ref cHr) ctHr), slHr⟩)
    (cHr_ : PySem.W.codeIn K (.ref cHr) "_law_hurt_right" = true)
    (kHr : PySem.W.keepIn K (.ref fHr) = true)
    (oHr : K.lookup cHr = some ⟨eHr, ddHr, .fields vsHr, scHr⟩)
    (vHr : vsHr[11]? = some (.ref PtHr))
    (hHr : PySem.W.codeHdIn K cHr PtHr = true)
    (tHr : K.lookup PtHr = none)
    (aBr : PySem.W.nsIn K mainGlobals "_law_bench_right" = some (some (.ref fBr)))
    (lBr : K.lookup fBr = some ⟨ocBr, odBr, .func (PySem.W.fnOf "_law_bench_right" "_law_bench_right" (defArgs sBr) (defBody sBr) (defScope sBr) .none kVBr dcBr pmBr anBr (.ref cBr) ctBr), slBr⟩)
    (cBr_ : PySem.W.codeIn K (.ref cBr) "_law_bench_right" = true)
    (kBr : PySem.W.keepIn K (.ref fBr) = true)
    (oBr : K.lookup cBr = some ⟨eBr, ddBr, .fields vsBr, scBr⟩)
    (vBr : vsBr[11]? = some (.ref PtBr))
    (hBr : PySem.W.codeHdIn K cBr PtBr = true)
    (tBr : K.lookup PtBr = none)
    (neHB : PtHr ≠ PtBr) :
    ∃ Ts : List Addr, Ts.length = 2 ∧ (∀ Pt ∈ Ts, h.get? Pt = some { cls := .none, data := .fields #[] }) ∧ (∀ Pt ∈ Ts, K.lookup Pt = none) ∧ (∀ Pt ∈ Ts, ∃ c, PySem.W.CodeHd h c Pt) ∧ ∀ base : Heap, K.In base → base.Ns mainGlobals mg → (∀ Pt ∈ Ts, ∀ c, PySem.W.CodeHd h c Pt → TabB base mg c Pt) → AtCall P w K mg base fa (sp67L K Ts) := by
  have mHr := PySem.W.mg_of X G aHr
  have mBr := PySem.W.mg_of X G aBr
  have e := hfa.symm.trans (PySem.W.mg_of X G aLw)
  cases e
  have tHr_ : h.get? PtHr = some { cls := .none, data := .fields #[] } := own "_law_hurt_right" (by decide +kernel) _ mHr cHr PtHr _ _ _ _ _ _ lHr rfl rfl oHr vHr
  have tBr_ : h.get? PtBr = some { cls := .none, data := .fields #[] } := own "_law_bench_right" (by decide +kernel) _ mBr cBr PtBr _ _ _ _ _ _ lBr rfl rfl oBr vBr
  have two_ : ∀ {R : Addr → Prop}, R PtHr → R PtBr → ∀ Pt ∈ [PtHr, PtBr], R Pt := by
    intro R a c Pt hp
    rcases List.mem_cons.mp hp with rfl | hp
    · exact a
    · rw [List.mem_singleton.mp hp]; exact c
  refine ⟨[PtHr, PtBr], rfl, two_ tHr_ tBr_, two_ tHr tBr, two_ ⟨cHr, PySem.W.codeHd_of_K X hHr⟩ ⟨cBr, PySem.W.codeHd_of_K X hBr⟩, fun base _ _ TBs => ?_⟩
  have TBH : TabB base mg cHr PtHr := TBs PtHr (by simp) cHr (PySem.W.codeHd_of_K X hHr)
  have TBB : TabB base mg cBr PtBr := TBs PtBr (by simp) cBr (PySem.W.codeHd_of_K X hBr)
  have FHr := fun_mk (x := "_law_hurt_right") (qual := "_law_hurt_right") (st := sHr) lHr cHr_ kHr
  have bHr_ := FHr.binds (ps := ["_law_pen_here"]) fun _ _ _ _ _ _ us hl => match us, hl with | [_], _ => rfl
  have FBr := fun_mk (x := "_law_bench_right") (qual := "_law_bench_right") (st := sBr) lBr cBr_ kBr
  have bBr_ := FBr.binds (ps := ["_law_pen_here", "_law_bare_here", "_law_rows"]) fun _ _ _ _ _ _ us hl => match us, hl with | [_, _, _], _ => rfl
  have mCI := PySem.W.mg_of X G gCI
  have mCL := PySem.W.mg_of X G gCL
  have mCD := PySem.W.mg_of X G gCD
  have mCS := PySem.W.mg_of X G gCS
  have mCF := PySem.W.mg_of X G gCF
  have mCW := PySem.W.mg_of X G gCW
  have mCC := PySem.W.mg_of X G gCC
  have mCH := PySem.W.mg_of X G gCH
  have mCB := PySem.W.mg_of X G gCB
  have mCE := PySem.W.mg_of X G gCE
  have mCU := PySem.W.mg_of X G gCU
  have mCV := PySem.W.mg_of X G gCV
  have mCJ := PySem.W.mg_of X G gCJ
  have y_dict := PySem.W.mg_none_of X G z_dict
  have y_zip := PySem.W.mg_none_of X G z_zip
  have y_any := PySem.W.mg_none_of X G z_any
  have y_ValueError := PySem.W.mg_none_of X G z_ValueError
  have y_set := PySem.W.mg_none_of X G z_set
  have y_isinstance := PySem.W.mg_none_of X G z_isinstance
  have y_str := PySem.W.mg_none_of X G z_str
  have y_len := PySem.W.mg_none_of X G z_len
  have y_all := PySem.W.mg_none_of X G z_all
  have y_bool := PySem.W.mg_none_of X G z_bool
  have y_int := PySem.W.mg_none_of X G z_int
  have y_abs := PySem.W.mg_none_of X G z_abs
  have y_range := PySem.W.mg_none_of X G z_range
  have y_list := PySem.W.mg_none_of X G z_list
  have y_tuple := PySem.W.mg_none_of X G z_tuple
  have y_sorted := PySem.W.mg_none_of X G z_sorted
  have y_super := PySem.W.mg_none_of X G z_super
  have y_repr := PySem.W.mg_none_of X G z_repr
  have FN := fun_mk (x := "is_name") (qual := "is_name") (st := sIsName) lN cN kN
  have mN := PySem.W.mg_of X G aN
  have bN_ := FN.binds (ps := ["value"]) fun _ _ _ _ _ _ us hl => match us, hl with | [_], _ => rfl
  have FIi := fun_mk (x := "is_integer") (qual := "is_integer") (st := sIsInt) lIi cIi kIi
  have mIi := PySem.W.mg_of X G aIi
  have bIi_ := FIi.binds (ps := ["value"]) fun _ _ _ _ _ _ us hl => match us, hl with | [_], _ => rfl
  have FBt := fun_mk (x := "is_between") (qual := "is_between") (st := sBetw) lBt cBt kBt
  have mBt := PySem.W.mg_of X G aBt
  have bBt_ := FBt.binds (ps := ["value", "least", "most"]) fun _ _ _ _ _ _ us hl => match us, hl with | [_, _, _], _ => rfl
  have FWr := fun_mk (x := "wrong_frame") (qual := "wrong_frame") (st := sWrong) lWr cWr kWr
  have mWr := PySem.W.mg_of X G aWr
  have bWr_ := FWr.binds (ps := ["legs", "top", "ground", "power"]) fun _ _ _ _ _ _ us hl => match us, hl with | [_, _, _, _], _ => rfl
  have FLI := fun_mk (x := "__init__") (qual := "Leg.__init__") (st := sLegI) lLI cLI kLI
  have bLI_ := FLI.binds (ps := ["self", "name"]) fun _ _ _ _ _ _ us hl => match us, hl with | [_, _], _ => rfl
  have FPn := fun_mk (x := "_law_pen") (qual := "_law_pen") (st := sPen) lPn cPn kPn
  have mPn := PySem.W.mg_of X G aPn
  have bPn_ := FPn.binds (ps := ["_law_script"]) fun _ _ _ _ _ _ us hl => match us, hl with | [_], _ => rfl
  have FDr := fun_mk (x := "_law_draw") (qual := "_law_draw") (st := sDraw) lDr cDr kDr
  have mDr := PySem.W.mg_of X G aDr
  have bDr_ := FDr.binds (ps := ["_law_pen_here", "_law_many"]) fun _ _ _ _ _ _ us hl => match us, hl with | [_, _], _ => rfl
  have FTg := fun_mk (x := "_law_tags") (qual := "_law_tags") (st := sTags) lTg cTg kTg
  have mTg := PySem.W.mg_of X G aTg
  have bTg_ := FTg.binds (ps := ["_law_pen_here", "_law_many"]) fun _ _ _ _ _ _ us hl => match us, hl with | [_, _], _ => rfl
  have FBa := fun_mk (x := "_law_bare") (qual := "_law_bare") (st := sBare) lBa cBa kBa
  have mBa := PySem.W.mg_of X G aBa
  have bBa_ := FBa.binds (ps := ["_law_pen_here", "_law_most"]) fun _ _ _ _ _ _ us hl => match us, hl with | [_, _], _ => rfl
  have FFm := fun_mk (x := "_law_frame") (qual := "_law_frame") (st := sFrm) lFm cFm kFm
  have mFm := PySem.W.mg_of X G aFm
  have bFm_ := FFm.binds (ps := ["_law_bare_here"]) fun _ _ _ _ _ _ us hl => match us, hl with | [_], _ => rfl
  have FId := fun_mk (x := "is_driver") (qual := "is_driver") (st := sIsD) lId cId kId
  have mId := PySem.W.mg_of X G aId
  have bId_ := FId.binds (ps := ["frame", "value"]) fun _ _ _ _ _ _ us hl => match us, hl with | [_, _], _ => rfl
  have FDl := fun_mk (x := "driver_levels") (qual := "driver_levels") (st := sDL) lDl cDl kDl
  have mDl := PySem.W.mg_of X G aDl
  have bDl_ := FDl.binds (ps := ["frame", "levels"]) fun _ _ _ _ _ _ us hl => match us, hl with | [_, _], _ => rfl
  have FLv := fun_mk (x := "_law_levels") (qual := "_law_levels") (st := sLvs) lLv cLv kLv
  have mLv := PySem.W.mg_of X G aLv
  have bLv_ := FLv.binds (ps := ["_law_pen_here", "_law_bare_here"]) fun _ _ _ _ _ _ us hl => match us, hl with | [_, _], _ => rfl
  have FWp := fun_mk (x := "wrong_parts") (qual := "wrong_parts") (st := sWp) lWp cWp kWp
  have mWp := PySem.W.mg_of X G aWp
  have bWp_ := FWp.binds (ps := ["frame", "parts"]) fun _ _ _ _ _ _ us hl => match us, hl with | [_, _], _ => rfl
  have FPa := fun_mk (x := "_law_parts") (qual := "_law_parts") (st := sPar) lPa cPa kPa
  have mPa := PySem.W.mg_of X G aPa
  have bPa_ := FPa.binds (ps := ["_law_pen_here", "_law_bare_here"]) fun _ _ _ _ _ _ us hl => match us, hl with | [_, _], _ => rfl
  have FCe := fun_mk (x := "_law_cells") (qual := "_law_cells") (st := sCel) lCe cCe kCe
  have mCe := PySem.W.mg_of X G aCe
  have bCe_ := FCe.binds (ps := ["_law_bare_here", "_law_rows"]) fun _ _ _ _ _ _ us hl => match us, hl with | [_, _], _ => rfl
  have FIm := fun_mk (x := "is_member") (qual := "is_member") (st := sIsM) lIm cIm kIm
  have mIm := PySem.W.mg_of X G aIm
  have bIm_ := FIm.binds (ps := ["frame", "value"]) fun _ _ _ _ _ _ us hl => match us, hl with | [_, _], _ => rfl
  have FCk := fun_mk (x := "check_hurt") (qual := "check_hurt") (st := sCkH) lCk cCk kCk
  have mCk := PySem.W.mg_of X G aCk
  have bCk_ := FCk.binds (ps := ["chain", "hurt"]) fun _ _ _ _ _ _ us hl => match us, hl with | [_, _], _ => rfl
  have FWb := fun_mk (x := "wrong_blocks") (qual := "wrong_blocks") (st := sWb) lWb cWb kWb
  have mWb := PySem.W.mg_of X G aWb
  have bWb_ := FWb.binds (ps := ["frame", "blocks"]) fun _ _ _ _ _ _ us hl => match us, hl with | [_, _], _ => rfl
  have FPk := fun_mk (x := "_law_pick") (qual := "_law_pick") (st := sPick) lPk cPk kPk
  have mPk := PySem.W.mg_of X G aPk
  have bPk_ := FPk.binds (ps := ["_law_pen_here", "_law_some"]) fun _ _ _ _ _ _ us hl => match us, hl with | [_, _], _ => rfl
  have FMm := fun_mk (x := "_law_members") (qual := "_law_members") (st := sMms) lMm cMm kMm
  have mMm := PySem.W.mg_of X G aMm
  have bMm_ := FMm.binds (ps := ["_law_bare_here"]) fun _ _ _ _ _ _ us hl => match us, hl with | [_], _ => rfl
  have FHe := fun_mk (x := "_law_heard") (qual := "_law_heard") (st := sHea) lHe cHe kHe
  have mHe := PySem.W.mg_of X G aHe
  have bHe_ := FHe.binds (ps := ["_law_ask"]) fun _ _ _ _ _ _ us hl => match us, hl with | [_], _ => rfl
  have FAr := fun_mk (x := "_law_arrived_right") (qual := "_law_arrived_right") (st := sArr) lAr cAr kAr
  have mAr := PySem.W.mg_of X G aAr
  have bAr_ := FAr.binds (ps := ["_law_pen_here", "_law_bare_here", "_law_rows"]) fun _ _ _ _ _ _ us hl => match us, hl with | [_, _, _], _ => rfl
  have FLn := fun_mk (x := "_law_is_name") (qual := "_law_is_name") (st := sLin) lLn cLn kLn
  have mLn := PySem.W.mg_of X G aLn
  have bLn_ := FLn.binds (ps := ["_law_thing"]) fun _ _ _ _ _ _ us hl => match us, hl with | [_], _ => rfl
  have FWi := fun_mk (x := "_law_wide") (qual := "_law_wide") (st := sWi) lWi cWi kWi
  have mWi := PySem.W.mg_of X G aWi
  have bWi_ := FWi.binds (ps := ["_law_pen_here", "_law_bare_here"]) fun _ _ _ _ _ _ us hl => match us, hl with | [_, _], _ => rfl
  have FLw := fun_mk (x := "law") (qual := "law") (st := sLaw67) lLw cLw kLw
  have mLw := PySem.W.mg_of X G aLw
  have FgD := fun_mk (x := "drivers") (qual := "Frame.drivers") (st := (sFr 5)) lgD cgD kgD
  have bgD_ := FgD.binds (ps := ["self"]) fun _ _ _ _ _ _ us hl => match us, hl with | [_], _ => rfl
  have FgN := fun_mk (x := "names") (qual := "Frame.names") (st := (sFr 4)) lgN cgN kgN
  have bgN_ := FgN.binds (ps := ["self"]) fun _ _ _ _ _ _ us hl => match us, hl with | [_], _ => rfl
  have FgR := fun_mk (x := "rails") (qual := "Frame.rails") (st := (sFr 7)) lgR cgR kgR
  have bgR_ := FgR.binds (ps := ["self"]) fun _ _ _ _ _ _ us hl => match us, hl with | [_], _ => rfl
  have FgM := fun_mk (x := "members") (qual := "Frame.members") (st := (sFr 8)) lgM cgM kgM
  have bgM_ := FgM.binds (ps := ["self"]) fun _ _ _ _ _ _ us hl => match us, hl with | [_], _ => rfl
  have FmC := fun_mk (x := "__contains__") (qual := "Frame.__contains__") (st := (sFr 9)) lmC cmC kmC
  have bmC_ := FmC.binds (ps := ["self", "x"]) fun _ _ _ _ _ _ us hl => match us, hl with | [_, _], _ => rfl
  have FmG := fun_mk (x := "__getitem__") (qual := "Frame.__getitem__") (st := (sFr 10)) lmG cmG kmG
  have bmG_ := FmG.binds (ps := ["self", "at"]) fun _ _ _ _ _ _ us hl => match us, hl with | [_, _], _ => rfl
  have FmE := fun_mk (x := "__eq__") (qual := "Frame.__eq__") (st := (sFr 13)) lmE cmE kmE
  have bmE_ := FmE.binds (ps := ["self", "other"]) fun _ _ _ _ _ _ us hl => match us, hl with | [_, _], _ => rfl
  have FmN := fun_mk (x := "__len__") (qual := "Frame.__len__") (st := (sFr 12)) lmN cmN kmN
  have bmN_ := FmN.binds (ps := ["self"]) fun _ _ _ _ _ _ us hl => match us, hl with | [_], _ => rfl
  have FDvD := fun_mk (x := "drives") (qual := "Driver.drives") (st := (sDrv 2)) lDvD cDvD kDvD
  have bDvD_ := FDvD.binds (ps := ["self"]) fun _ _ _ _ _ _ us hl => match us, hl with | [_], _ => rfl
  have FDvS := fun_mk (x := "drives") (qual := "Listener.drives") (st := (sLis 2)) lDvS cDvS kDvS
  have bDvS_ := FDvS.binds (ps := ["self"]) fun _ _ _ _ _ _ us hl => match us, hl with | [_], _ => rfl
  have FEqD := fun_mk (x := "__eq__") (qual := "Driver.__eq__") (st := (sDrv 3)) lEqD cEqD kEqD
  have bEqD_ := FEqD.binds (ps := ["self", "other"]) fun _ _ _ _ _ _ us hl => match us, hl with | [_, _], _ => rfl
  have FEqS := fun_mk (x := "__eq__") (qual := "Listener.__eq__") (st := (sLis 3)) lEqS cEqS kEqS
  have bEqS_ := FEqS.binds (ps := ["self", "other"]) fun _ _ _ _ _ _ us hl => match us, hl with | [_, _], _ => rfl
  have FwI := fun_mk (x := "__init__") (qual := "Word.__init__") (st := (sWd 0)) lwI cwI kwI
  have FwG := fun_mk (x := "__getitem__") (qual := "Word.__getitem__") (st := (sWd 5)) lwG cwG kwG
  have bwG_ := FwG.binds (ps := ["self", "at"]) fun _ _ _ _ _ _ us hl => match us, hl with | [_, _], _ => rfl
  have FwQ := fun_mk (x := "__eq__") (qual := "Word.__eq__") (st := (sWd 8)) lwQ cwQ kwQ
  have bwQ_ := FwQ.binds (ps := ["self", "other"]) fun _ _ _ _ _ _ us hl => match us, hl with | [_, _], _ => rfl
  have FwO := fun_mk (x := "of") (qual := "Word.of") (st := (sWd 1)) lwO cwO kwO
  have FwR := fun_mk (x := "rest") (qual := "Word.rest") (st := (sWd 2)) lwR cwR kwR
  have FcI : FunD K "__init__" "Chain.__init__" (defArgs sChI) (defBody sChI) (defScope sChI) [] [] fcI _ := ⟨⟨occI, odcI, _, _, dccI, pmcI, ancI, cdcI, ctcI, slcI, rfl, lcI, ccI, .inl ⟨rfl, rfl⟩, .inl rfl⟩, kcI⟩
  have FcO : FunD K "of" "Chain.of" (defArgs sChO) (defBody sChO) (defScope sChO) [] [] fcO _ := ⟨⟨occO, odcO, _, _, dccO, pmcO, ancO, cdcO, ctcO, slcO, rfl, lcO, ccO, .inl ⟨rfl, rfl⟩, .inl rfl⟩, kcO⟩
  have FcC := fun_mk (x := "cells") (qual := "Chain.cells") (st := sChC) lcC ccC kcC
  have bcC_ := FcC.binds (ps := ["self"]) fun _ _ _ _ _ _ us hl => match us, hl with | [_], _ => rfl
  have FcN := fun_mk (x := "entering") (qual := "Chain.entering") (st := sChN) lcN ccN kcN
  have bcN_ := FcN.binds (ps := ["self", "word"]) fun _ _ _ _ _ _ us hl => match us, hl with | [_, _], _ => rfl
  have FcA := fun_mk (x := "arrived") (qual := "Chain.arrived") (st := sChA) lcA ccA kcA
  have bcA_ := FcA.binds (ps := ["self", "digits"]) fun _ _ _ _ _ _ us hl => match us, hl with | [_, _], _ => rfl
  have FcL := fun_mk (x := "__len__") (qual := "Chain.__len__") (st := sChL) lcL ccL kcL
  have bcL_ := FcL.binds (ps := ["self"]) fun _ _ _ _ _ _ us hl => match us, hl with | [_], _ => rfl
  have FhI := fun_mk (x := "__init__") (qual := "Hurt.__init__") (st := sHuI) lhI chI khI
  have bhI_ := FhI.binds (ps := ["self", "link", "name"]) fun _ _ _ _ _ _ us hl => match us, hl with | [_, _, _], _ => rfl
  have FhL := fun_mk (x := "link") (qual := "Hurt.link") (st := sHuL) lhL chL khL
  have bhL_ := FhL.binds (ps := ["self"]) fun _ _ _ _ _ _ us hl => match us, hl with | [_], _ => rfl
  have FhQ := fun_mk (x := "__eq__") (qual := "Hurt.__eq__") (st := sHuQ) lhQ chQ khQ
  have bhQ_ := FhQ.binds (ps := ["self", "other"]) fun _ _ _ _ _ _ us hl => match us, hl with | [_, _], _ => rfl
  have FhS := fun_mk (x := "__str__") (qual := "Hurt.__str__") (st := sHuS) lhS chS khS
  have bhS_ := FhS.binds (ps := ["self"]) fun _ _ _ _ _ _ us hl => match us, hl with | [_], _ => rfl
  have FbI : FunD K "__init__" "Board.__init__" (defArgs sBoI) (defBody sBoI) (defScope sBoI) [] [] fbI _ := ⟨⟨ocbI, odbI, _, _, dcbI, pmbI, anbI, cdbI, ctbI, slbI, rfl, lbI, cbI, .inl ⟨rfl, rfl⟩, .inl rfl⟩, kbI⟩
  have FIE : FunS P K "__init__" "InvalidFrame.__init__" sInv fIE _ xIE yIE CI := ⟨⟨ocIE, odIE, kVIE, dcIE, pmIE, anIE, ctIE, slIE, rfl, lIE⟩, cIE, ⟨u1IE, v1IE, vsIE, w1IE, flIE, tfIE, mIE, nIE, pIE⟩, ⟨u2IE, v2IE, w2IE, qIE⟩, kIE⟩
  have bIE_ : Binds K (PySem.W.fnX "__init__" "InvalidFrame.__init__" (defArgs sInv) (defBody sInv) (defScope sInv) [("__class__", yIE)] .none kVIE dcIE pmIE anIE (.ref xIE) ctIE) ["self", "reason"] [] := .all fun us hl => match us, hl with | [_, _], _ => rfl
  have FIU : FunS P K "__init__" "InvalidHurt.__init__" sIvH fIU _ xIU yIU CU := ⟨⟨ocIU, odIU, kVIU, dcIU, pmIU, anIU, ctIU, slIU, rfl, lIU⟩, cIU, ⟨u1IU, v1IU, vsIU, w1IU, flIU, tfIU, mIU, nIU, pIU⟩, ⟨u2IU, v2IU, w2IU, qIU⟩, kIU⟩
  have bIU_ : Binds K (PySem.W.fnX "__init__" "InvalidHurt.__init__" (defArgs sIvH) (defBody sIvH) (defScope sIvH) [("__class__", yIU)] .none kVIU dcIU pmIU anIU (.ref xIU) ctIU) ["self", "reason"] [] := .all fun us hl => match us, hl with | [_, _], _ => rfl
  have FIV : FunS P K "__init__" "InvalidBoard.__init__" sIvB fIV _ xIV yIV CV := ⟨⟨ocIV, odIV, kVIV, dcIV, pmIV, anIV, ctIV, slIV, rfl, lIV⟩, cIV, ⟨u1IV, v1IV, vsIV, w1IV, flIV, tfIV, mIV, nIV, pIV⟩, ⟨u2IV, v2IV, w2IV, qIV⟩, kIV⟩
  have bIV_ : Binds K (PySem.W.fnX "__init__" "InvalidBoard.__init__" (defArgs sIvB) (defBody sIvB) (defScope sIvB) [("__class__", yIV)] .none kVIV dcIV pmIV anIV (.ref xIV) ctIV) ["self", "reason"] [] := .all fun us hl => match us, hl with | [_, _], _ => rfl
  have FDI : FunS P K "__init__" "Driver.__init__" sDrvI fDI _ xDI yDI CD := ⟨⟨ocDI, odDI, kVDI, dcDI, pmDI, anDI, ctDI, slDI, rfl, lDI⟩, cDI, ⟨u1DI, v1DI, vsDI, w1DI, flDI, tfDI, mDI, nDI, pDI⟩, ⟨u2DI, v2DI, w2DI, qDI⟩, kDI⟩
  have bDI_ : Binds K (PySem.W.fnX "__init__" "Driver.__init__" (defArgs sDrvI) (defBody sDrvI) (defScope sDrvI) [("__class__", yDI)] .none kVDI dcDI pmDI anDI (.ref xDI) ctDI) ["self", "name"] [] := .all fun us hl => match us, hl with | [_, _], _ => rfl
  have FSI : FunS P K "__init__" "Listener.__init__" sLisI fSI _ xSI ySI CS := ⟨⟨ocSI, odSI, kVSI, dcSI, pmSI, anSI, ctSI, slSI, rfl, lSI⟩, cSI, ⟨u1SI, v1SI, vsSI, w1SI, flSI, tfSI, mSI, nSI, pSI⟩, ⟨u2SI, v2SI, w2SI, qSI⟩, kSI⟩
  have bSI_ : Binds K (PySem.W.fnX "__init__" "Listener.__init__" (defArgs sLisI) (defBody sLisI) (defScope sLisI) [("__class__", ySI)] .none kVSI dcSI pmSI anSI (.ref xSI) ctSI) ["self", "name"] [] := .all fun us hl => match us, hl with | [_, _], _ => rfl
  have FFI : FunD K "__init__" "Frame.__init__" (defArgs sFrI) (defBody sFrI) (defScope sFrI) [] kwsF fFI _ := ⟨⟨ocFI, odFI, _, _, dcFI, pmFI, anFI, cdFI, ctFI, slFI, rfl, lFI, cFI, .inl ⟨rfl, rfl⟩, .inr ⟨DFI, rfl, fun p hp => by
      rcases List.mem_cons.mp hp with rfl | hp
      · exact ⟨_, n1FI, r1FI⟩
      rcases List.mem_cons.mp hp with rfl | hp
      · exact ⟨_, n2FI, r2FI⟩
      obtain rfl := List.mem_singleton.mp hp
      exact ⟨_, n3FI, r3FI⟩⟩⟩, kFI⟩
  have FO : FunD K "of" "Frame.of" (defArgs sOf) (defBody sOf) (defScope sOf) [] kwsF fO _ := ⟨⟨ocO, odO, _, _, dcO, pmO, anO, cdO, ctO, slO, rfl, lO, cO, .inl ⟨rfl, rfl⟩, .inr ⟨DO, rfl, fun p hp => by
      rcases List.mem_cons.mp hp with rfl | hp
      · exact ⟨_, n1O, r1O⟩
      rcases List.mem_cons.mp hp with rfl | hp
      · exact ⟨_, n2O, r2O⟩
      obtain rfl := List.mem_singleton.mp hp
      exact ⟨_, n3O, r3O⟩⟩⟩, kO⟩
  have NT : NmT K mg := ⟨y_isinstance, y_str, y_len, y_all, ⟨tL, PySem.W.mg_of X G gLet⟩, ⟨tN, PySem.W.mg_of X G gLon⟩, ⟨aR, PySem.W.mg_of X G gRes, fun H => .inr ⟨_, itsR, nR, lRes, rfl, rfl, sRes, vRes⟩⟩⟩
  have FhID : FunD K "__init__" "Hurt.__init__" (defArgs sHuI) (defBody sHuI) (defScope sHuI) [] [] fhI _ := ⟨⟨ochI, odhI, _, _, dchI, pmhI, anhI, cdhI, cthI, slhI, rfl, lhI, chI, .inl ⟨rfl, rfl⟩, .inl rfl⟩, khI⟩
  have FBE : FunD K "__init__" "Bench.__init__" (defArgs sBeI) (defBody sBeI) (defScope sBeI) [.non] [] fBE _ := ⟨⟨ocBE, odBE, _, kVBE, dcBE, pmBE, anBE, cdBE, ctBE, slBE, rfl, lBE, cBE, .inr ⟨(by intro z; cases z), TE, _, itE.toList, nTE, rfl, tBE, rfl, vBE⟩, .inl rfl⟩, kBE⟩
  have suCI_ : SupT P K mg CI := ⟨top_, y_super, ⟨cdCI, clsCI⟩, third⟩
  have suCD_ : SupT P K mg CD := ⟨top_, y_super, ⟨cdCD, clsCD⟩, third⟩
  have suCS_ : SupT P K mg CS := ⟨top_, y_super, ⟨cdCS, clsCS⟩, third⟩
  have suCU_ : SupT P K mg CU := ⟨top_, y_super, ⟨cdCU, clsCU⟩, third⟩
  have suCV_ : SupT P K mg CV := ⟨top_, y_super, ⟨cdCV, clsCV⟩, third⟩
  have OE : OexC K CI := ⟨⟨nm, q, Ns, bs, bm, sn, sub, ab, col, dd, k0, k1, k2, k3, k5, exL, exR⟩, exS, exB, exT, exK⟩
  have OV : OexC K CV := ⟨⟨nm2, q2, Ns2, bs2, bm2, sn2, sub2, ab2, col2, dd2, k02, k12, k22, k32, k52, exVL, exVR⟩, exVS, exVB, exVT, exVK⟩
  have EV : ExT P K mg CV "reason" := ⟨suCV_, OV, exVU, exVV, mrCV, exVN⟩
  have OU : OexC K CU := ⟨⟨nm3, q3, Ns3, bs3, bm3, sn3, sub3, ab3, col3, dd3, k03, k13, k23, k33, k53, exUL, exUR⟩, exUS, exUB, exUT, exUK⟩
  have EU : ExT P K mg CU "reason" := ⟨suCU_, OU, exUU, exUV, mrCU, exUN⟩
  have ET : ExT P K mg CI "reason" := ⟨suCI_, OE, exU, exV, mrCI, exN⟩
  have LT : LgT P K mg CI fIE fLI fN := ⟨ET, aIE, tIE, mCI, mN⟩
  have clCD : Cls K CD := ⟨pgCD, hdCD, poCD, saCD⟩
  have isCD : IsiC K CD := ⟨clCD, caCD, cn, ct, obCD⟩
  have clCS : Cls K CS := ⟨pgCS, hdCS, poCS, saCS⟩
  have isCS : IsiC K CS := ⟨clCS, caCS, cn, ct, obCS⟩
  have clCF : Cls K CF := ⟨pgCF, hdCF, poCF, saCF⟩
  have isCF : IsiC K CF := ⟨clCF, caCF, cn, ct, obCF⟩
  have clCW : Cls K CW := ⟨pgCW, hdCW, poCW, saCW⟩
  have isCW : IsiC K CW := ⟨clCW, caCW, cn, ct, obCW⟩
  have clCC : Cls K CC := ⟨pgCC, hdCC, poCC, saCC⟩
  have isCC : IsiC K CC := ⟨clCC, caCC, cn, ct, obCC⟩
  have clCH : Cls K CH := ⟨pgCH, hdCH, poCH, saCH⟩
  have isCH : IsiC K CH := ⟨clCH, caCH, cn, ct, obCH⟩
  have clCB : Cls K CB := ⟨pgCB, hdCB, poCB, saCB⟩
  have isCB : IsiC K CB := ⟨clCB, caCB, cn, ct, obCB⟩
  have clCE : Cls K CE := ⟨pgCE, hdCE, poCE, saCE⟩
  have isCE : IsiC K CE := ⟨clCE, caCE, cn, ct, obCE⟩
  have glCD : FnOk P w K mg base (L2.CX P w) 3 fLI _ ["self", "name"] (spLegI K CI CD) := ok_legI FLI LT NT ⟨clCD, nnCD⟩ FN bN_ FIE bIE_
  have glCS : FnOk P w K mg base (L2.CX P w) 3 fLI _ ["self", "name"] (spLegI K CI CS) := ok_legI FLI LT NT ⟨clCS, nnCS⟩ FN bN_ FIE bIE_
  have hD := ok_drvI FDI ⟨suCD_, suCD, tyLI, fnLI, mrCD⟩ bLI_ glCD
  have hS := ok_lisI FSI ⟨suCS_, suCS, tyLI, fnLI, mrCS⟩ bLI_ glCS
  let ks : Kinds := ⟨CD, CS, CL⟩
  have MD : MkL P w K mg base CI CD "Driver" := ⟨⟨fDI, _, ⟨mkCD, aDI, iDI, kcCD⟩, hD, bDI_⟩, mCD⟩
  have MS : MkL P w K mg base CI CS "Listener" := ⟨⟨fSI, _, ⟨mkCS, aSI, iSI, kcCS⟩, hS, bSI_⟩, mCS⟩
  have BI : Bi mg := ⟨y_int, y_len, y_abs⟩
  have gI : FnOk P w K mg base CX0 1 fIE _ ["self", "reason"] (spInv K CI) := ok_inv FIE ET
  have gII : FnOk P w K mg base CX0 1 fIi _ ["value"] (spIsInt K) := ok_isint FIi y_isinstance y_int y_bool
  have gBt : FnOk P w K mg base CX0 2 fBt _ ["value", "least", "most"] (spBetw K) := ok_betw FBt gII mIi kIi bIi_
  have WT : WrT P w K mg base ks CF := { isi := y_isinstance, all := y_all, len := y_len, bool := y_bool, mD := mCD, mI := mCS, mF := mCF, most := ⟨mcF, uM, ⟨rdF, gaF⟩, ⟨moF, rmF⟩⟩, icD := isCD, icI := isCS, nD := nnCD, nI := nnCS, dd := kdd, ii := kii, betw := ⟨fBt, _, mBt, kBt, bBt_, gBt⟩ }
  have gWr : FnOk P w K mg base CX0 3 fWr _ ["legs", "top", "ground", "power"] (spWrong K ks) := ok_wrong FWr WT
  have FT : FrT P w K mg base ks CI fIE CF := { wr := WT, sorted := y_sorted, mI := mCI, ex := ET, iC := aIE, tI := tIE, inv := ⟨_, bIE_, gI⟩, wrong := ⟨fWr, _, mWr, kWr, bWr_, gWr⟩, cl := clCF, nL := nf_legs, nT := nftop, nG := nfground, nP := nfpower }
  have kB := fr_kwB (w := w) (base := base) FFI FT
  have MF : Mk K CF fFI := ⟨mkCF, aFI, iFI, kcCF⟩
  have OT : OfT P w K mg base ks CI fIE CF fFI := { isi := y_isinstance, list := y_list, tuple := y_tuple, mI := mCI, ex := ET, iC := aIE, tI := tIE, inv := ⟨_, bIE_, gI⟩, mkc := MF, kt := klt, kt2 := ktt }
  have gO := ok_of FO OT kB
  have gDr : FnOk P w K mg base CX0 1 fDr _ ["_law_pen_here", "_law_many"] spDraw := ok_draw FDr BI
  have DW : DwT P w K mg base := { bi := BI, sorted := y_sorted, draw := ⟨fDr, _, mDr, kDr, bDr_, gDr⟩, tags := ⟨fTg, _, mTg, kTg, bTg_, ok_tags FTg BI y_range FDr bDr_ mDr⟩ }
  have CR : ClX.CRead K CF mcF := ⟨rdF, gaF⟩
  have CM : ClX.CMet K CF mcF "of" pO fO := ⟨aO, ⟨rsO, rO⟩, fO_⟩
  have TK : FkT P w K mg base ks CI CF := { d := MD, i := MS, mF := mCF, of := ⟨mcF, pO, fO, CR, CM, of_kwB FO gO⟩ }
  have two : ∀ {R : Addr → Prop}, R CD → R CS → ∀ C, (C = CD ∨ C = CS) → R C := by
    rintro R a b C (rfl | rfl)
    · exact a
    · exact b
  have dvD : PropN P w K mg base 1 CD "drives" (spDr CD (decide (CD = CD))) := ⟨clCD, pDvD, fDvD, _, ⟨aDvD, bDvD, dDvD, _, eDvD⟩, by rw [decide_eq_true rfl]; exact ok_drives FDvD rfl rfl, bDvD_⟩
  have dvS : PropN P w K mg base 1 CS "drives" (spDr CS (decide (CS = CD))) := ⟨clCS, pDvS, fDvS, _, ⟨aDvS, bDvS, dDvS, _, eDvS⟩, by rw [decide_eq_false (Ne.symm neDS)]; exact ok_drives FDvS rfl rfl, bDvS_⟩
  have DV : ∀ C, (C = ks.drv ∨ C = ks.lis) → PropN P w K mg base 1 C "drives" (spDr C (decide (C = ks.drv))) := two dvD dvS
  have eqD : EqN P w K mg base 1 CD (spEq K CD) := ⟨⟨fEqD, _, aEqD, iEqD, ok_eqD FEqD ⟨y_isinstance, mCD, isCD, kkCDCD, nnCD⟩, bEqD_⟩, neCD, obCD⟩
  have eqS : EqN P w K mg base 1 CS (spEq K CS) := ⟨⟨fEqS, _, aEqS, iEqS, ok_eqI FEqS ⟨y_isinstance, mCS, isCS, kkCSCS, nnCS⟩, bEqS_⟩, neCS, obCS⟩
  have LQ : LqT P w K mg base ks := { eq := two eqD eqS, ic := two isCD isCS, nf := fun C D hc hd => two (R := fun C => PySem.W.notFirst K C (.ref D) = true) (two (R := fun D => PySem.W.notFirst K CD (.ref D) = true) nfCDCD nfCDCS D hd) (two (R := fun D => PySem.W.notFirst K CS (.ref D) = true) nfCSCD nfCSCS D hd) C hc, un := fun C D hc hd => two (R := fun C => C ≠ D → PySem.W.kitOne K (.ref D) (.ref C) = some false) (two (R := fun D => CD ≠ D → PySem.W.kitOne K (.ref D) (.ref CD) = some false) (fun z => absurd rfl z) (fun _ => kkCSCD) D hd) (two (R := fun D => CS ≠ D → PySem.W.kitOne K (.ref D) (.ref CS) = some false) (fun _ => kkCDCS) (fun z => absurd rfl z) D hd) C hc }
  have FP : FpT P w K mg base ks CF := { cl := clCF, nL := nf_legs, nG := nfground, nP := nfpower, tuple := y_tuple, sorted := y_sorted, dv := DV }
  have pRa : PropN P w K mg base 1 CF "rails" (spTup ks CF fun d => railsZ d.g d.r) := ⟨clCF, pgR, fgR, _, ⟨agR, bgR, dgR, _, egR⟩, ok_frails FgR FP, bgR_⟩
  have pDr : PropN P w K mg base 3 CF "drivers" (spTup ks CF fun d => kindZ ks true d.ys) := ⟨clCF, pgD, fgD, _, ⟨agD, bgD, dgD, _, egD⟩, ok_fdrv FgD FP, bgD_⟩
  have pNm : PropN P w K mg base 1 CF "names" (spTup ks CF fun d => names d.ys) := ⟨clCF, pgN, fgN, _, ⟨agN, bgN, dgN, _, egN⟩, ok_fnames FgN FP, bgN_⟩
  have pMe : PropN P w K mg base 3 CF "members" (spMem ks CF) := ⟨clCF, pgM, fgM, _, ⟨agM, bgM, dgM, _, egM⟩, ok_fmem FgM FP pNm pRa, bgM_⟩
  have FM : FmT K mg CF := ⟨clCF, nf_legs, y_len, y_isinstance, y_str⟩
  have tIn : MetN P w K mg base CX0 1 CF "__contains__" ["self", "x"] (spFIs K ks CF) := ⟨fmC, _, amC, imC, jmC, ⟨fun vs H Q E q => (ok_fin (P := P) (w := w) (mg := mg) (base := base) FmC FM).len vs H Q E (spFIs_of q), fun A outer s H args us vs Q E hr he hb hv hs => (ok_fin (P := P) (w := w) (mg := mg) (base := base) FmC FM).run A outer s H args us vs Q E hr he hb hv (spFIs_of hs)⟩, bmC_⟩
  have tGet : MetN P w K mg base CX0 2 CF "__getitem__" ["self", "at"] (spFGetI ks CF) := ⟨fmG, _, amG, imG, jmG, ok_fgetI FmG clCF nf_legs tIn, bmG_⟩
  have FE : FeT P w K mg base ks CF := { ic := isCF, nT := nftop, nL := nf_legs, isi := y_isinstance, mF := mCF, self := kkCFCF, lq := LQ, rails := pRa }
  have eqF : EqN P w K mg base 4 CF (spFEq K ks CF) := ⟨⟨fmE, _, amE, imE, ok_feq FmE FE, bmE_⟩, neCF, obCF⟩
  -- words
  have gId := ok_isd FId (w := w) (base := base) (ks := ks) ⟨tIn, tGet, DV⟩
  have gBg : FnOk P w K mg base CX0 2 fBt _ ["value", "least", "most"] (spBetG K) := ok_betG FBt gII mIi kIi bIi_
  have ID : ∃ f fd, mg "is_driver" = some (.ref f) ∧ PySem.W.keepIn K (.ref f) = true ∧ Binds K fd ["frame", "value"] [] ∧ FnOk P w K mg base CX0 4 f fd ["frame", "value"] (spIsD K ks CF) := ⟨fId, _, mId, kId, bId_, gId⟩
  have gDl := ok_dl FDl (w := w) (base := base) (ks := ks) { cl := clCF, nT := nftop, isi := y_isinstance, dict := y_dict, str := y_str, all := y_all, sorted := y_sorted, isd := ID, bet := ⟨fBt, _, mBt, kBt, bBt_, gBg⟩, drv := pDr }
  have IT : WiT6 P w K mg base ks CF CW := { cl := clCW, nF := nwframe, nL := nw_levels, dl := ⟨fDl, _, mDl, kDl, bDl_, gDl⟩ }
  have MW : Mk K CW fwI := ⟨mkCW, awI, iwI, kcCW⟩
  have W0 := ok_wdI FwI IT wf1 wf2 wf3 [] (by decide) (by decide) wdI_b0
  have WmT_ : WmT P w K mg base ks CF CW fwI := ⟨IT, MW, W0⟩
  have CRW : ClX.CRead K CW mcW := ⟨rdW, gaW⟩
  have CMO : ClX.CMet K CW mcW "of" pwO fwO := ⟨awO, ⟨rswO, rwO⟩, jwO⟩
  have gOf := ok_wof FwO WmT_
  have WF : WfT P w K mg base ks CF CW := { cw := clCW, nF := nwframe, nL := nw_levels, cf := clCF, nT := nftop, tuple := y_tuple, bool := y_bool }
  have tLen : MetN P w K mg base CX0 1 CF "__len__" ["self"] (spFLen CF) := ⟨fmN, _, amN, imN, jmN, ok_flen FmN FM, bmN_⟩
  have tWG : MetN P w K mg base CX0 2 CW "__getitem__" ["self", "at"] (spWGetI ks CF CW) := ⟨fwG, _, awG, iwG, jwG, ok_wgi FwG WF tIn, bwG_⟩
  -- chains
  have MO : ∃ mc u, ClX.CRead K CC mc ∧ ClX.CVal K CC mc "MOST" (.int 8) u := ⟨mcC, uC, ⟨rdC, gaC⟩, ⟨moC, rmC⟩⟩
  have gWp := ok_wp FWp (w := w) (base := base) (ks := ks) { in_ := tIn, len_ := tLen, mC := mCC, most := MO, isi := y_isinstance, all := y_all, len := y_len, set := y_set, list := y_list, tuple := y_tuple, kl := klt, kt := ktt }
  have CT : ChT P w K mg base ks CF CC := { wrong := ⟨fWp, _, mWp, kWp, bWp_, gWp⟩, tuple := y_tuple, list := y_list, isi := y_isinstance, cl := clCC, nF := ncframe, nP := ncparts, kl := klt, kt := ktt }
  have CS_ := fnr_chI FcI CT
  have MCC : Mk K CC fcI := ⟨mkCC, acI, icI, kcCC⟩
  have gCO := ok_cho FcO CT MCC CS_
  have CM_ : ChM K mg CF CC := { cl := clCC, nF := ncframe, nP := ncparts, cf := clCF, nT := nftop, tuple := y_tuple, len := y_len }
  have pCe : PropN P w K mg base 1 CC "cells" (spChC ks CF CC) := ⟨clCC, pcC, fcC, _, ⟨acC, bcC, dcC, _, ecC⟩, ok_chc FcC CM_, bcC_⟩
  have gEn := ok_chn FcN (w := w) (base := base) (ks := ks) CM_ pCe tWG y_isinstance y_str
  have gAr := ok_cha FcA (w := w) (base := base) (ks := ks) (CF := CF) (CC := CC) (CW := CW) { m := CM_, zip := y_zip, cells := pCe, isd := ID, mW := mCW, cW := ⟨mcW, pwO, fwO, CRW, CMO, wof_k0 FwO gOf⟩ }
  have gLen : MetN P w K mg base CX0 1 CC "__len__" ["self"] (spChL ks CF CC) := ⟨fcL, _, acL, icL, jcL, ok_chl FcL CM_, bcL_⟩
  have gWq := ok_weq FwQ (w := w) (base := base) (ks := ks) (CF := CF) (CW := CW) { f := WF, isi := y_isinstance, mW := mCW, icW := isCW, self := kkCWCW, eqF := eqF, icF := isCF, nf := nfCFCF }
  have eqW_ : EqN P w K mg base 7 CW (spWEq K ks CF CW) := ⟨⟨fwQ, _, awQ, iwQ, gWq, bwQ_⟩, neCW, obCW⟩
  have CRC : ClX.CRead K CC mcC := ⟨rdC, gaC⟩
  have CMC : ClX.CMet K CC mcC "of" pcO fcO := ⟨acO, ⟨rscO, rcO⟩, jcO⟩
  have gU : FnOk P w K mg base CX0 1 fIU _ ["self", "reason"] (spInv K CU) := ok_ivh FIU EU
  have gV : FnOk P w K mg base CX0 1 fIV _ ["self", "reason"] (spInv K CV) := ok_ivb FIV EV
  -- hurts
  have HT : HuT P w K mg base CU fIU CC CH := { betw := ⟨fBt, _, mBt, kBt, bBt_, gBg⟩, isn := ⟨fN, _, mN, kN, bN_, ok_isname FN NT⟩, res := ⟨aR, PySem.W.mg_of X G gRes, fun H => .inr ⟨_, itsR, nR, lRes, rfl, rfl, sRes, vRes⟩⟩, mC := mCC, most := MO, mI := mCU, ex := EU, iC := aIU, tI := tIU, inv := ⟨_, bIU_, gU⟩, cl := clCH, nL := nh_link, nN := nnCH }
  have gHI := ok_huI FhI HT
  have MH : Mk K CH fhI := ⟨mkCH, ahI, ihI, kcCH⟩
  have hO_ : ∃ fd, Binds K fd ["self", "link", "name"] [] ∧ FnOk P w K mg base (L2.CX P w) 3 fhI fd ["self", "link", "name"] (spHuI K CU CH) := ⟨_, bhI_, gHI⟩
  have pHL : PropN P w K mg base 1 CH "link" (spHuL CH) := ⟨clCH, phL, fhL, _, ⟨ahL, bhL, dhL, _, ehL⟩, ok_huL FhL clCH nh_link, bhL_⟩
  have sH_ : ∃ g fd, PySem.W.findIn K (.ref CH) "__str__" = some (some (.ref g)) ∧ PySem.W.isFn K (.ref g) = true ∧ FnOk P w K mg base CX0 1 g fd ["self"] (spHuS CH) ∧ Binds K fd ["self"] [] := ⟨fhS, _, ahS, ihS, ok_huS FhS clCH nh_link nnCH, bhS_⟩
  have eqH_ : EqN P w K mg base 1 CH (spHuQ K CH) := ⟨⟨fhQ, _, ahQ, ihQ, ok_huQ FhQ y_isinstance mCH isCH kkCHCH nh_link nnCH, bhQ_⟩, neCH, obCH⟩
  -- boards and benches
  have gIm : FnOk P w K mg base CX0 3 fIm _ ["frame", "value"] (spIsM K ks CF) := ok_ism FIm ⟨tIn, pRa⟩
  have IM : ∃ f fd, mg "is_member" = some (.ref f) ∧ PySem.W.keepIn K (.ref f) = true ∧ Binds K fd ["frame", "value"] [] ∧ FnOk P w K mg base CX0 3 f fd ["frame", "value"] (spIsM K ks CF) := ⟨fIm, _, mIm, kIm, bIm_, gIm⟩
  have gCk := ok_ckh FCk (w := w) (base := base) (ks := ks) (CF := CF) (CC := CC) (CH := CH) { m := CM_, link := pHL, len_ := gLen, ism := IM, mI := mCU, ex := EU, iC := aIU, tI := tIU, inv := ⟨_, bIU_, gU⟩, cl := clCH, nN := nnCH }
  have WB_ : WbT P w K mg base ks CF := { ism := IM, isi := y_isinstance, all := y_all, any := y_any, len := y_len, set := y_set, list := y_list, tuple := y_tuple, kl := klt, kt := ktt }
  have gWb : FnOk P w K mg base CX0 4 fWb _ ["frame", "blocks"] (spWb K ks CF) := ok_wb FWb WB_
  have BT : BoT P w K mg base ks CF CV fIV CB := { wrong := ⟨fWb, _, mWb, kWb, bWb_, gWb⟩, mem := pMe, mI := mCV, ex := EV, iC := aIV, tI := tIV, inv := ⟨_, bIV_, gV⟩, sorted := y_sorted, tuple := y_tuple, cl := clCB, nF := nbframe, nB := nb_blocks, nH := nb_homes }
  have BS := fnr_boI FbI BT
  have MB : Mk K CB fbI := ⟨mkCB, abI, ibI, kcCB⟩
  have ME : Mk K CE fBE := ⟨mkCE, aBE, iBE, kcCE⟩
  have BE_ : BeT P w K mg base ks CF CC CW CB CE CU CV fIV CH := { m := CM_, eqF := eqF, icF := isCF, nf := nfCFCF, ck := ⟨fCk, _, mCk, kCk, bCk_, gCk⟩, mJ := mCV, ex := EV, iC := aIV, tI := tIV, inv := ⟨_, bIV_, gV⟩, mW := mCW, cW := ⟨mcW, pwR, fwR, CRW, ⟨awR, ⟨rswR, rwR⟩, jwR⟩, wre_k0 FwR (ok_wrest FwR WmT_)⟩, rs := ⟨aRs, PySem.W.mg_of X G gRst⟩, cB := clCB, nF := nbframe, cE := clCE, n1 := ne_chain, n2 := ne_board, n3 := ne_hurt, n4 := ne_state }
  have gBE := ok_beI FBE BE_
  obtain ⟨dsE, vdE, bdE⟩ := be_bd FBE
  -- the law's own defs
  have DR : Fi P w K mg base "_law_draw" 1 ["_law_pen_here", "_law_many"] spDraw := ⟨fDr, _, mDr, kDr, bDr_, gDr⟩
  have PK : Fi P w K mg base "_law_pick" 2 ["_law_pen_here", "_law_some"] spPick := ⟨fPk, _, mPk, kPk, bPk_, ok_pick FPk BI FDr bDr_ mDr⟩
  have FRM : Fi P w K mg base "_law_frame" 7 ["_law_bare_here"] (spFrm ks CF) := ⟨fFm, _, mFm, kFm, bFm_, ok_frm FFm TK⟩
  have KV : KeT K CV := ⟨by rw [clsCV]; rfl, gaV, ggV, exVB, hdV, caV, cn, ct, obV⟩
  have KU : KeT K CU := ⟨by rw [clsCU]; rfl, gaU, ggU, exUB, hdU, caU, cn, ct, obU⟩
  have HE : HeT K mg CJ CU CV := { mE := mCJ, mI := mCU, mJ := mCV, mV := y_ValueError, isi := y_isinstance, str := y_str, exI := xmU, exJ := xmV, keI := KU, keJ := KV, noI := exUN, noJ := exVN, ii := kiU, iv := kiUE, jj := kiV, ij := kiUV, ji := kiVU }
  have HG : ∃ g fdg, mg "_law_heard" = some (.ref g) ∧ Fun K "_law_heard" "_law_heard" sHea g fdg ∧ Binds K fdg ["_law_ask"] [] := ⟨fHe, _, mHe, FHe, bHe_⟩
  have AR : ArrT P w K mg base ks CF CC CW fcO fcA fcN := { dw := DW, frm := FRM, cel := ⟨fCe, _, mCe, kCe, bCe_, ok_cel FCe⟩, lvs := ⟨fLv, _, mLv, kLv, bLv_, ok_lvs FLv DW⟩, ne := neDS, mC := mCC, cls := ⟨mcC, pcO, CRC, CMC⟩, of0 := ch_of0 FcO gCO, clC := clCC, arM := ⟨acA, icA, kcA⟩, arO := ⟨_, bcA_, gAr⟩, arK := ar_k FcA gAr, enM := ⟨acN, icN, kcN⟩, enO := ⟨_, bcN_, gEn⟩, mW := mCW, cW := ⟨mcW, pwO, fwO, CRW, CMO, wof_k0 FwO gOf⟩, eqW := eqW_, icW := isCW, nfW := nfCWCW, range := y_range, dict := y_dict, zip := y_zip, tuple := y_tuple, list := y_list }
  have HR : HrT P w K mg base CU CV CJ CH fhI := { pick := PK, lin := ⟨fLn, _, mLn, kLn, bLn_, ok_lin FLn y_isinstance y_str y_len⟩, he := HG, ht := HE, mH := mCH, mkH := MH, hK := hu_kw FhID gHI, hO := hO_, link := pHL, strH := sH_, eqH := eqH_, cl := clCH, ic := isCH, nN := nnCH, nfH := nfCHCH, nfT := nfHT, nfS := nfHS, nfN := nfHN, koT := koHT, koS := koHS, koN := koHN, range := y_range, isi := y_isinstance, int := y_int, bool := y_bool, str := y_str, repr := y_repr }
  have gHr := ok_hr (Pb := PtBr) lHr cHr_ HR TBH neHB
  have BR : BrT P w K mg base ks CF CC CB CE CU CV CJ CH fcO fhI fbI fBE := { draw := DR, pick := PK, frm := FRM, mms := ⟨fMm, _, mMm, kMm, bMm_, ok_mms FMm y_sorted⟩, wide := ⟨fWi, _, mWi, kWi, bWi_, ok_wi FWi { draw := DR, pick := PK, dict := y_dict, sorted := y_sorted, int := y_int }⟩, he := HG, ht := HE, ne := neDS, mC := mCC, cls := ⟨mcC, pcO, CRC, CMC⟩, of0 := ch_of0 FcO gCO, mH := mCH, mkH := MH, hO := hO_, mB := mCB, mkB := MB, bS := BS, mE := mCE, mkE := ME, eK := be_kw FBE gBE, eO := ⟨_, dsE, vdE, bdE, gBE⟩, range := y_range, len := y_len, int := y_int }
  have gBr := ok_br (Ph := PtHr) lBr cBr_ BR TBB neHB
  have L : L67T P w K mg base PtHr PtBr := { pen := ⟨fPn, _, mPn, kPn, bPn_, ok_pen FPn y_list⟩, bare := ⟨fBa, _, mBa, kBa, bBa_, ok_bare FBa DW⟩, par := ⟨fPa, _, mPa, kPa, bPa_, ok_par FPa DW y_range⟩, arr := ⟨fAr, _, mAr, kAr, bAr_, ok_arr FAr AR⟩, br := ⟨fBr, _, mBr, kBr, bBr_, gBr⟩, hr := ⟨fHr, _, mHr, kHr, bHr_, gHr⟩, range := y_range }
  have AL := at_law FLw (fun s u => .of_eq rfl) L
  exact fun s H u v Q env ru hsp => by
    obtain ⟨a, b, e, hh⟩ := hsp
    cases e
    exact AL s H u v Q env ru hh
end Sj
open PySem PySem.W PyProof.Rows in
set_option maxRecDepth 100000 in
set_option maxHeartbeats 0 in
theorem PySem.Challenge.cw_strayjoins_k67_words_arrived_and_hurt_li_holds : PySem.Challenge.rw_strayjoins_k67_words_arrived_and_hurt_li.Holds := by
  w_on; o_law
  refine HandSHeadRun.head_any (r := OpenLaw.row PySem.Challenge.rw_strayjoins_k67_words_arrived_and_hurt_li) (q := Hd.q) (H := kmHook Hd.cap.heap_1 Hd.as Hd.ek Hd.ts) (ob := Hdt.obT Hd.as Hd.ts) (M := Hd.M) (loose := Hd.loose) (d := HandSHeadRun.topDef (OpenLaw.row PySem.Challenge.rw_strayjoins_k67_words_arrived_and_hurt_li).prog 69) (kwd := []) (Hdt.obT_eq Hd.ek)
    (by kernel_rfl) (fun s => by kernel_rfl) Hd.run (by kernel_rfl) (by kernel_rfl) (by kernel_rfl) (by rfl) (by first | assumption | decide +kernel) (by decide +kernel) ⟨rfl, rfl, rfl, rfl, rfl, by decide +kernel⟩ ?hw ?hc
  case hw => w_witness2
  case hc =>
   k_fill
   refine Sup.walk_atTs (l := PySem.Challenge.rw_strayjoins_k67_words_arrived_and_hurt_li) (sp := Sj.sp67L) (m := 2) (nms := ["_law_hurt_right", "_law_bench_right"]) rfl (by decide) rfl (by decide +kernel) (fun w h Y => PySem.W.km_in_of Y) ?F ?W
   case W => exact fun K Ts H a ns h3 hl hT hS => Sj.want67 K Ts H a ns h3 hl hT hS
   case F =>
     intro w mg f h KX G hmg own
     refine' Sj.all_mk67 KX G hmg own ?gCI ?gCL ?gCD ?gCS ?gCF ?gCW ?gCC ?gCH ?gCB ?gCE ?gCU ?gCV ?gCJ ?gLet ?gLon ?gRes ?lRes ?sRes ?vRes ?gRst ?z_dict ?z_zip ?z_any ?z_ValueError ?z_set ?z_isinstance ?z_str ?z_len ?z_all ?z_bool ?z_int ?z_abs ?z_range ?z_list ?z_tuple ?z_sorted ?z_super ?z_repr ?tyW ?rdW ?gaW ?tyC ?rdC ?gaC ?moC ?rmC ?aN ?lN ?cN ?kN ?aIi ?lIi ?cIi ?kIi ?aBt ?lBt ?cBt ?kBt ?aWr ?lWr ?cWr ?kWr ?aLI ?iLI ?lLI ?cLI ?kLI ?aPn ?lPn ?cPn ?kPn ?aDr ?lDr ?cDr ?kDr ?aTg ?lTg ?cTg ?kTg ?aBa ?lBa ?cBa ?kBa ?aFm ?lFm ?cFm ?kFm ?aId ?lId ?cId ?kId ?aDl ?lDl ?cDl ?kDl ?aLv ?lLv ?cLv ?kLv ?aWp ?lWp ?cWp ?kWp ?aPa ?lPa ?cPa ?kPa ?aCe ?lCe ?cCe ?kCe ?aIm ?lIm ?cIm ?kIm ?aCk ?lCk ?cCk ?kCk ?aWb ?lWb ?cWb ?kWb ?aPk ?lPk ?cPk ?kPk ?aMm ?lMm ?cMm ?kMm ?aHe ?lHe ?cHe ?kHe ?aAr ?lAr ?cAr ?kAr ?aLn ?lLn ?cLn ?kLn ?aWi ?lWi ?cWi ?kWi ?aLw ?lLw ?cLw ?kLw ?agD ?bgD ?dgD ?egD ?lgD ?cgD ?kgD ?agN ?bgN ?dgN ?egN ?lgN ?cgN ?kgN ?agR ?bgR ?dgR ?egR ?lgR ?cgR ?kgR ?agM ?bgM ?dgM ?egM ?lgM ?cgM ?kgM ?amC ?imC ?jmC ?lmC ?cmC ?kmC ?amG ?imG ?jmG ?lmG ?cmG ?kmG ?amE ?imE ?lmE ?cmE ?kmE ?amN ?imN ?jmN ?lmN ?cmN ?kmN ?aDvD ?bDvD ?dDvD ?eDvD ?lDvD ?cDvD ?kDvD ?aDvS ?bDvS ?dDvS ?eDvS ?lDvS ?cDvS ?kDvS ?aEqD ?iEqD ?lEqD ?cEqD ?kEqD ?aEqS ?iEqS ?lEqS ?cEqS ?kEqS ?awI ?iwI ?lwI ?cwI ?kwI ?awG ?iwG ?jwG ?lwG ?cwG ?kwG ?awQ ?iwQ ?lwQ ?cwQ ?kwQ ?awO ?rwO ?jwO ?lwO ?cwO ?kwO ?awR ?rwR ?jwR ?lwR ?cwR ?kwR ?acI ?icI ?lcI ?ccI ?kcI ?acO ?rcO ?jcO ?lcO ?ccO ?kcO ?acC ?bcC ?dcC ?ecC ?lcC ?ccC ?kcC ?acN ?icN ?jcN ?lcN ?ccN ?kcN ?acA ?icA ?jcA ?lcA ?ccA ?kcA ?acL ?icL ?jcL ?lcL ?ccL ?kcL ?ahI ?ihI ?lhI ?chI ?khI ?ahL ?bhL ?dhL ?ehL ?lhL ?chL ?khL ?ahQ ?ihQ ?lhQ ?chQ ?khQ ?ahS ?ihS ?lhS ?chS ?khS ?abI ?ibI ?lbI ?cbI ?kbI ?aFI ?iFI ?lFI ?cFI ?kFI ?n1FI ?r1FI ?n2FI ?r2FI ?n3FI ?r3FI ?tyF ?rdF ?gaF ?moF ?rmF ?aO ?rO ?fO_ ?lO ?cO ?kO ?n1O ?r1O ?n2O ?r2O ?n3O ?r3O ?aBE ?iBE ?lBE ?cBE ?kBE ?tBE ?vBE ?aIE ?iIE ?tIE ?lIE ?cIE ?mIE ?nIE ?pIE ?qIE ?kIE ?aIU ?iIU ?tIU ?lIU ?cIU ?mIU ?nIU ?pIU ?qIU ?kIU ?aIV ?iIV ?tIV ?lIV ?cIV ?mIV ?nIV ?pIV ?qIV ?kIV ?aDI ?iDI ?tDI ?lDI ?cDI ?mDI ?nDI ?pDI ?qDI ?kDI ?aSI ?iSI ?tSI ?lSI ?cSI ?mSI ?nSI ?pSI ?qSI ?kSI ?top_ ?third ?clsCI ?mrCI ?clsCD ?mrCD ?clsCS ?mrCS ?clsCL ?mrCL ?clsCU ?mrCU ?clsCV ?mrCV ?exL ?exR ?exS ?exB ?exV ?exT ?exK ?exN ?exU ?exVL ?exVR ?exVS ?exVB ?exVV ?exVT ?exVK ?exVN ?exVU ?gaV ?ggV ?hdV ?caV ?obV ?xmV ?kiV ?exUL ?exUR ?exUS ?exUB ?exUV ?exUT ?exUK ?exUN ?exUU ?gaU ?ggU ?hdU ?caU ?obU ?xmU ?kiU ?kiUE ?kiUV ?kiVU ?fnLI ?tyLI ?suCD ?suCS ?pgCD ?hdCD ?poCD ?saCD ?mkCD ?kcCD ?caCD ?obCD ?neCD ?nnCD ?pgCS ?hdCS ?poCS ?saCS ?mkCS ?kcCS ?caCS ?obCS ?neCS ?nnCS ?pgCF ?hdCF ?poCF ?saCF ?mkCF ?kcCF ?caCF ?obCF ?neCF ?pgCW ?hdCW ?poCW ?saCW ?mkCW ?kcCW ?caCW ?obCW ?neCW ?pgCC ?hdCC ?poCC ?saCC ?mkCC ?kcCC ?caCC ?obCC ?pgCH ?hdCH ?poCH ?saCH ?mkCH ?kcCH ?caCH ?obCH ?neCH ?nnCH ?pgCB ?hdCB ?poCB ?saCB ?mkCB ?kcCB ?caCB ?obCB ?pgCE ?hdCE ?poCE ?saCE ?mkCE ?kcCE ?caCE ?obCE ?nwframe ?nw_levels ?ncframe ?ncparts ?nh_link ?nbframe ?nb_blocks ?nb_homes ?ne_chain ?ne_board ?ne_hurt ?ne_state ?nf_legs ?nftop ?nfground ?nfpower ?cn ?ct ?kdd ?kii ?klt ?ktt ?kkCDCD ?kkCSCS ?kkCFCF ?kkCWCW ?kkCHCH ?kkCDCS ?kkCSCD ?nfCDCD ?nfCDCS ?nfCSCD ?nfCSCS ?nfCFCF ?nfCWCW ?nfCHCH ?neDS ?wf1 ?wf2 ?wf3 ?nfHT ?koHT ?nfHS ?koHS ?nfHN ?koHN ?aHr ?lHr ?cHr_ ?kHr ?oHr ?vHr ?hHr ?tHr ?aBr ?lBr ?cBr_ ?kBr ?oBr ?vBr ?hBr ?tBr ?neHB
     case gCI => k_is
     case gCL => k_is
     case gCD => k_is
     case gCS => k_is
     case gCF => k_is
     case gCW => k_is
     case gCC => k_is
     case gCH => k_is
     case gCB => k_is
     case gCE => k_is
     case gCU => k_is
     case gCV => k_is
     case gCJ => k_is
     case gLet => k_is
     case gLon => k_is
     case gRes => k_is
     case lRes => k_is
     case sRes => decide
     case vRes => exact .cons ⟨_, rfl⟩ (.cons ⟨_, rfl⟩ (.cons ⟨_, rfl⟩ .nil))
     case gRst => k_is
     case z_dict => k_is
     case z_zip => k_is
     case z_any => k_is
     case z_ValueError => k_is
     case z_set => k_is
     case z_isinstance => k_is
     case z_str => k_is
     case z_len => k_is
     case z_all => k_is
     case z_bool => k_is
     case z_int => k_is
     case z_abs => k_is
     case z_range => k_is
     case z_list => k_is
     case z_tuple => k_is
     case z_sorted => k_is
     case z_super => k_is
     case z_repr => k_is
     case tyW => k_is
     case rdW => k_is
     case gaW => k_is
     case tyC => k_is
     case rdC => k_is
     case gaC => k_is
     case moC => k_is
     case rmC => exact ⟨_, rfl⟩
     case aN => k_is
     case lN => k_is
     case cN => k_is
     case kN => k_is
     case aIi => k_is
     case lIi => k_is
     case cIi => k_is
     case kIi => k_is
     case aBt => k_is
     case lBt => k_is
     case cBt => k_is
     case kBt => k_is
     case aWr => k_is
     case lWr => k_is
     case cWr => k_is
     case kWr => k_is
     case aLI => k_is
     case iLI => k_is
     case lLI => k_is
     case cLI => k_is
     case kLI => k_is
     case aPn => k_is
     case lPn => k_is
     case cPn => k_is
     case kPn => k_is
     case aDr => k_is
     case lDr => k_is
     case cDr => k_is
     case kDr => k_is
     case aTg => k_is
     case lTg => k_is
     case cTg => k_is
     case kTg => k_is
     case aBa => k_is
     case lBa => k_is
     case cBa => k_is
     case kBa => k_is
     case aFm => k_is
     case lFm => k_is
     case cFm => k_is
     case kFm => k_is
     case aId => k_is
     case lId => k_is
     case cId => k_is
     case kId => k_is
     case aDl => k_is
     case lDl => k_is
     case cDl => k_is
     case kDl => k_is
     case aLv => k_is
     case lLv => k_is
     case cLv => k_is
     case kLv => k_is
     case aWp => k_is
     case lWp => k_is
     case cWp => k_is
     case kWp => k_is
     case aPa => k_is
     case lPa => k_is
     case cPa => k_is
     case kPa => k_is
     case aCe => k_is
     case lCe => k_is
     case cCe => k_is
     case kCe => k_is
     case aIm => k_is
     case lIm => k_is
     case cIm => k_is
     case kIm => k_is
     case aCk => k_is
     case lCk => k_is
     case cCk => k_is
     case kCk => k_is
     case aWb => k_is
     case lWb => k_is
     case cWb => k_is
     case kWb => k_is
     case aPk => k_is
     case lPk => k_is
     case cPk => k_is
     case kPk => k_is
     case aMm => k_is
     case lMm => k_is
     case cMm => k_is
     case kMm => k_is
     case aHe => k_is
     case lHe => k_is
     case cHe => k_is
     case kHe => k_is
     case aAr => k_is
     case lAr => k_is
     case cAr => k_is
     case kAr => k_is
     case aLn => k_is
     case lLn => k_is
     case cLn => k_is
     case kLn => k_is
     case aWi => k_is
     case lWi => k_is
     case cWi => k_is
     case kWi => k_is
     case aLw => k_is
     case lLw => k_is
     case cLw => k_is
     case kLw => k_is
     case agD => k_is
     case bgD => k_is
     case dgD => k_is
     case egD => k_is
     case lgD => k_is
     case cgD => k_is
     case kgD => k_is
     case agN => k_is
     case bgN => k_is
     case dgN => k_is
     case egN => k_is
     case lgN => k_is
     case cgN => k_is
     case kgN => k_is
     case agR => k_is
     case bgR => k_is
     case dgR => k_is
     case egR => k_is
     case lgR => k_is
     case cgR => k_is
     case kgR => k_is
     case agM => k_is
     case bgM => k_is
     case dgM => k_is
     case egM => k_is
     case lgM => k_is
     case cgM => k_is
     case kgM => k_is
     case amC => k_is
     case imC => k_is
     case jmC => k_is
     case lmC => k_is
     case cmC => k_is
     case kmC => k_is
     case amG => k_is
     case imG => k_is
     case jmG => k_is
     case lmG => k_is
     case cmG => k_is
     case kmG => k_is
     case amE => k_is
     case imE => k_is
     case lmE => k_is
     case cmE => k_is
     case kmE => k_is
     case amN => k_is
     case imN => k_is
     case jmN => k_is
     case lmN => k_is
     case cmN => k_is
     case kmN => k_is
     case aDvD => k_is
     case bDvD => k_is
     case dDvD => k_is
     case eDvD => k_is
     case lDvD => k_is
     case cDvD => k_is
     case kDvD => k_is
     case aDvS => k_is
     case bDvS => k_is
     case dDvS => k_is
     case eDvS => k_is
     case lDvS => k_is
     case cDvS => k_is
     case kDvS => k_is
     case aEqD => k_is
     case iEqD => k_is
     case lEqD => k_is
     case cEqD => k_is
     case kEqD => k_is
     case aEqS => k_is
     case iEqS => k_is
     case lEqS => k_is
     case cEqS => k_is
     case kEqS => k_is
     case awI => k_is
     case iwI => k_is
     case lwI => k_is
     case cwI => k_is
     case kwI => k_is
     case awG => k_is
     case iwG => k_is
     case jwG => k_is
     case lwG => k_is
     case cwG => k_is
     case kwG => k_is
     case awQ => k_is
     case iwQ => k_is
     case lwQ => k_is
     case cwQ => k_is
     case kwQ => k_is
     case awO => k_is
     case rwO => k_is
     case jwO => k_is
     case lwO => k_is
     case cwO => k_is
     case kwO => k_is
     case awR => k_is
     case rwR => k_is
     case jwR => k_is
     case lwR => k_is
     case cwR => k_is
     case kwR => k_is
     case acI => k_is
     case icI => k_is
     case lcI => k_is
     case ccI => k_is
     case kcI => k_is
     case acO => k_is
     case rcO => k_is
     case jcO => k_is
     case lcO => k_is
     case ccO => k_is
     case kcO => k_is
     case acC => k_is
     case bcC => k_is
     case dcC => k_is
     case ecC => k_is
     case lcC => k_is
     case ccC => k_is
     case kcC => k_is
     case acN => k_is
     case icN => k_is
     case jcN => k_is
     case lcN => k_is
     case ccN => k_is
     case kcN => k_is
     case acA => k_is
     case icA => k_is
     case jcA => k_is
     case lcA => k_is
     case ccA => k_is
     case kcA => k_is
     case acL => k_is
     case icL => k_is
     case jcL => k_is
     case lcL => k_is
     case ccL => k_is
     case kcL => k_is
     case ahI => k_is
     case ihI => k_is
     case lhI => k_is
     case chI => k_is
     case khI => k_is
     case ahL => k_is
     case bhL => k_is
     case dhL => k_is
     case ehL => k_is
     case lhL => k_is
     case chL => k_is
     case khL => k_is
     case ahQ => k_is
     case ihQ => k_is
     case lhQ => k_is
     case chQ => k_is
     case khQ => k_is
     case ahS => k_is
     case ihS => k_is
     case lhS => k_is
     case chS => k_is
     case khS => k_is
     case abI => k_is
     case ibI => k_is
     case lbI => k_is
     case cbI => k_is
     case kbI => k_is
     case aFI => k_is
     case iFI => k_is
     case lFI => k_is
     case cFI => k_is
     case kFI => k_is
     case n1FI => k_is
     case r1FI => exact ⟨_, rfl⟩
     case n2FI => k_is
     case r2FI => rfl
     case n3FI => k_is
     case r3FI => rfl
     case tyF => k_is
     case rdF => k_is
     case gaF => k_is
     case moF => k_is
     case rmF => exact ⟨_, rfl⟩
     case aO => k_is
     case rO => k_is
     case fO_ => k_is
     case lO => k_is
     case cO => k_is
     case kO => k_is
     case n1O => k_is
     case r1O => exact ⟨_, rfl⟩
     case n2O => k_is
     case r2O => rfl
     case n3O => k_is
     case r3O => rfl
     case aBE => k_is
     case iBE => k_is
     case lBE => k_is
     case cBE => k_is
     case kBE => k_is
     case tBE => k_is
     case vBE => exact .cons rfl .nil
     case aIE => k_is
     case iIE => k_is
     case tIE => k_is
     case lIE => k_is
     case cIE => k_is
     case mIE => k_is
     case nIE => rfl
     case pIE => first | rfl | decide +kernel
     case qIE => k_is
     case kIE => k_is
     case aIU => k_is
     case iIU => k_is
     case tIU => k_is
     case lIU => k_is
     case cIU => k_is
     case mIU => k_is
     case nIU => rfl
     case pIU => first | rfl | decide +kernel
     case qIU => k_is
     case kIU => k_is
     case aIV => k_is
     case iIV => k_is
     case tIV => k_is
     case lIV => k_is
     case cIV => k_is
     case mIV => k_is
     case nIV => rfl
     case pIV => first | rfl | decide +kernel
     case qIV => k_is
     case kIV => k_is
     case aDI => k_is
     case iDI => k_is
     case tDI => k_is
     case lDI => k_is
     case cDI => k_is
     case mDI => k_is
     case nDI => rfl
     case pDI => first | rfl | decide +kernel
     case qDI => k_is
     case kDI => k_is
     case aSI => k_is
     case iSI => k_is
     case tSI => k_is
     case lSI => k_is
     case cSI => k_is
     case mSI => k_is
     case nSI => rfl
     case pSI => first | rfl | decide +kernel
     case qSI => k_is
     case kSI => k_is
     case top_ => first | rfl | decide +kernel
     case third => k_is
     case clsCI => k_is
     case mrCI => k_is
     case clsCD => k_is
     case mrCD => k_is
     case clsCS => k_is
     case mrCS => k_is
     case clsCL => k_is
     case mrCL => k_is
     case clsCU => k_is
     case mrCU => k_is
     case clsCV => k_is
     case mrCV => k_is
     case exL => k_is
     case exR => decide +kernel
     case exS => k_is
     case exB => k_is
     case exV => k_is
     case exT => k_is
     case exK => k_is
     case exN => k_is
     case exU => kernel_rfl
     case exVL => k_is
     case exVR => decide +kernel
     case exVS => k_is
     case exVB => k_is
     case exVV => k_is
     case exVT => k_is
     case exVK => k_is
     case exVN => k_is
     case exVU => kernel_rfl
     case gaV => k_is
     case ggV => k_is
     case hdV => k_is
     case caV => k_is
     case obV => k_is
     case xmV => kernel_rfl
     case kiV => kernel_rfl
     case exUL => k_is
     case exUR => decide +kernel
     case exUS => k_is
     case exUB => k_is
     case exUV => k_is
     case exUT => k_is
     case exUK => k_is
     case exUN => k_is
     case exUU => kernel_rfl
     case gaU => k_is
     case ggU => k_is
     case hdU => k_is
     case caU => k_is
     case obU => k_is
     case xmU => kernel_rfl
     case kiU => kernel_rfl
     case kiUE => kernel_rfl
     case kiUV => kernel_rfl
     case kiVU => kernel_rfl
     case fnLI => k_is
     case tyLI => k_is
     case suCD => kernel_rfl
     case suCS => kernel_rfl
     case pgCD => k_is
     case hdCD => k_is
     case poCD => k_is
     case saCD => k_is
     case mkCD => k_is
     case kcCD => k_is
     case caCD => k_is
     case obCD => k_is
     case neCD => k_is
     case nnCD => k_is
     case pgCS => k_is
     case hdCS => k_is
     case poCS => k_is
     case saCS => k_is
     case mkCS => k_is
     case kcCS => k_is
     case caCS => k_is
     case obCS => k_is
     case neCS => k_is
     case nnCS => k_is
     case pgCF => k_is
     case hdCF => k_is
     case poCF => k_is
     case saCF => k_is
     case mkCF => k_is
     case kcCF => k_is
     case caCF => k_is
     case obCF => k_is
     case neCF => k_is
     case pgCW => k_is
     case hdCW => k_is
     case poCW => k_is
     case saCW => k_is
     case mkCW => k_is
     case kcCW => k_is
     case caCW => k_is
     case obCW => k_is
     case neCW => k_is
     case pgCC => k_is
     case hdCC => k_is
     case poCC => k_is
     case saCC => k_is
     case mkCC => k_is
     case kcCC => k_is
     case caCC => k_is
     case obCC => k_is
     case pgCH => k_is
     case hdCH => k_is
     case poCH => k_is
     case saCH => k_is
     case mkCH => k_is
     case kcCH => k_is
     case caCH => k_is
     case obCH => k_is
     case neCH => k_is
     case nnCH => k_is
     case pgCB => k_is
     case hdCB => k_is
     case poCB => k_is
     case saCB => k_is
     case mkCB => k_is
     case kcCB => k_is
     case caCB => k_is
     case obCB => k_is
     case pgCE => k_is
     case hdCE => k_is
     case poCE => k_is
     case saCE => k_is
     case mkCE => k_is
     case kcCE => k_is
     case caCE => k_is
     case obCE => k_is
     case nwframe => k_is
     case nw_levels => k_is
     case ncframe => k_is
     case ncparts => k_is
     case nh_link => k_is
     case nbframe => k_is
     case nb_blocks => k_is
     case nb_homes => k_is
     case ne_chain => k_is
     case ne_board => k_is
     case ne_hurt => k_is
     case ne_state => k_is
     case nf_legs => k_is
     case nftop => k_is
     case nfground => k_is
     case nfpower => k_is
     case cn => k_is
     case ct => k_is
     case kdd => kernel_rfl
     case kii => kernel_rfl
     case klt => kernel_rfl
     case ktt => kernel_rfl
     case kkCDCD => kernel_rfl
     case kkCSCS => kernel_rfl
     case kkCFCF => kernel_rfl
     case kkCWCW => kernel_rfl
     case kkCHCH => kernel_rfl
     case kkCDCS => kernel_rfl
     case kkCSCD => kernel_rfl
     case nfCDCD => k_is
     case nfCDCS => k_is
     case nfCSCD => k_is
     case nfCSCS => k_is
     case nfCFCF => k_is
     case nfCWCW => k_is
     case nfCHCH => k_is
     case neDS => decide
     case wf1 => decide
     case wf2 => decide
     case wf3 => decide
     case nfHT => k_is
     case koHT => kernel_rfl
     case nfHS => k_is
     case koHS => kernel_rfl
     case nfHN => k_is
     case koHN => kernel_rfl
     case aHr => k_is
     case lHr => k_is
     case cHr_ => k_is
     case kHr => k_is
     case oHr => k_is
     case vHr => rfl
     case hHr => kernel_rfl
     case tHr => kernel_rfl
     case aBr => k_is
     case lBr => k_is
     case cBr_ => k_is
     case kBr => k_is
     case oBr => k_is
     case vBr => rfl
     case hBr => kernel_rfl
     case tBr => kernel_rfl
     case neHB => decide
