import PyProof.Rows.All
import Wide.All
import OpenK.AllK
import Wide.FinOn
import HandS.ForMost
import HandS.ForExc
import HandS.ExcInit
import HandS.ExcField
import HandS.ExcIs
import HandS.IsInst
import HandS.Flow
import HandS.Defaults
import HandS.CallLocal
import HandS.Strs
import HandS.SetFor
import HandS.Sort
import HandS.TupSets
import KE.SortData
import KE.KRevSl
import HandS.SetKeys
import HandS.Walk
import KE.GoesMore
import KE.OsSortAny
import KE.SortLaws
import KE.KDictKeyed
import HandS.Lambda
import HandS.Star
import HandS.TupAny
import HandS.TupMul
import HandS.Style
import HandS.Words
import HandS.Deep
import HandS.TryOnly
import HandS.Wide
import HandS.Comp
import HandS.Zip
import KE.KDictDisplayH
import KE.KDictSum
import KE.KDictCopyH
import HandS.SortKw
import KE.DatumOrd
import PyProof.NeKinds
import HandS.HeadHook4
import HandS.EndTab
import HandS.MakeKw
import HandS.Head0
import HandS.Head1
import HandS.Head2
import HandS.HeadEnd
import PySem.Challenge.RW_rainweeks_k37_comparing_known_by_hand
set_option Elab.async false
set_option linter.all false
set_option maxRecDepth 100000
set_option maxHeartbeats 4000000
/-! own layer: promises of defs that are called where no repr is under way (the guards are known) -/
namespace Rw
open PySem PySem.Spec PyProof.Rows L2

/-- as FnOk, for calls around which nothing is being shown -/
structure FnG (P : Program) (w : World) (K : PySem.W.Frag) (mg : Str → Option Value) (base : Heap) (CX : CXT) (k : Nat) (f : Addr) (fd : FuncData) (ps : List Str) (sp : Sp) : Prop where
  count : ∀ vs H Q E, sp vs H Q E → vs.length = ps.length
  go : ∀ (A : Around) (ou : List Env) (s : Shared) (H : Hp) (ar : Args) (us : List Value) (vs : List V) (Q : VK) (E : XK), A.guards = some [] → Room k A → Env0 P w K mg base A ou s H → BindsTo s fd ar (ps.zip us) → Vals vs us → sp vs H Q E →
    codeAny (model P w) A (.call (.ref f) ar) (CR CX ou P w H s Q E) s
section
variable {P : Program} {w : World} {K : PySem.W.Frag} {mg : Str → Option Value} {base : Heap} {CX : CXT}
theorem ofOk {k : Nat} {f : Addr} {fd : FuncData} {ps : List Str} {sp : Sp} (F : FnOk P w K mg base CX k f fd ps sp) : FnG P w K mg base CX k f fd ps sp :=
  ⟨F.len, fun A ou s H ar us vs Q E _ hr he hb hv hs => F.run A ou s H ar us vs Q E hr he hb hv hs⟩
theorem FnG.up {j k : Nat} {f : Addr} {fd : FuncData} {ps : List Str} {sp : Sp} (F : FnG P w K mg base CX j f fd ps sp) (h : j ≤ k) : FnG P w K mg base CX k f fd ps sp :=
  ⟨F.count, fun A ou s H ar us vs Q E hg hr => F.go A ou s H ar us vs Q E hg (hr.mono h)⟩

/-- a def of the text, by its body -/
theorem fn_g {k : Nat} {f : Addr} {nm ql : Str} {pa : Arguments} {bo : List Stmt} {sc : Scope} {dV kV doc pm cdv ct oc : Value} {an od : Option Addr} {osl : Array (Option Value)} {N ps : List Str} {sp : Sp}
    (lk : K.lookup f = some ⟨oc, od, .func (PySem.W.fnOf nm ql pa bo sc dV kV doc pm an cdv ct), osl⟩) (hcd : PySem.W.codeIn K cdv ql = true) (S : FnScope N ps sc) (cnt : ∀ vs H Q E, sp vs H Q E → vs.length = ps.length)
    (hb : ∀ (A : Around) (ou : List Env) (s : Shared) (H : Hp) (vs : List V) (Q : VK) (E : XK), A.guards = some [] → Room k (A.deeper (envOfC ql sc s.heap.objs.size f cdv)) → sp vs H Q E →
      ∃ t, PSs (cxOf CX P w K mg base N ql sc f cdv A ou s H E) bo t ∧ t { nx := fun _ H' => Q .non H', rt := Q } (start N vs) H) :
    FnG P w K mg base CX (k + 1) f (PySem.W.fnOf nm ql pa bo sc dV kV doc pm an cdv ct) ps sp := by
  constructor
  · exact cnt
  · intro A ou s H ar us vs Q E hg hr e0 hbd r hsp
    have KX := e0.mod.kin.keeps (h' := s.heap) fun b o e => (e0.bs b o e).1
    have lim := e0.mod.nolimit.keeps (h' := s.heap) fun b o e => (e0.bs b o e).1
    have kinds : ∀ y ∈ ps.zip us, sc.names.lookup y.1 = some .local ∨ (sc.names.lookup y.1 = some .cell ∧ ((cellsFrom (s.heap.objs.size + 1) sc.names []).lookup y.1).isSome = true) := by
      rintro ⟨n, v⟩ hy
      exact (S.par n (List.of_mem_zip hy).1).imp id fun q => ⟨q, PySem.W.cellsFrom_some _ _ _ (.inl q)⟩
    apply codeAny_call_function hr.depth (KX _ _ lk) rfl S.co S.gen rfl (PySem.W.codeRec_of KX hcd)
    apply hbd
    refine wpAny_newFunctionEnv_cells S.kind kinds fun env he s1 x => ?_
    cases he
    obtain ⟨t, ht, hq⟩ := hb A ou s H vs Q E hg (hr.deeper _) hsp
    have I := inv_start (CX := CX) (P := P) (w := w) (K := K) (mg := mg) (base := base) (N := N) (qual := ql) (f := f) (cd := cdv) (E := E) S hr.hd e0 (cnt _ _ _ _ hsp) r x
    refine ⟨lim.keeps x.toInCall.keep, codeAny_func (wpAny_mono (ht.run [] s1 _ H _ I hq) (fun fl s' hs => ?_) fun _ _ z => z)⟩
    cases fl with
    | next => obtain ⟨_, H2, J, q⟩ := hs; exact ⟨V.non, H2, J.os, J.bare, J.base, J.hok, rfl, q⟩
    | ret u => obtain ⟨v, _, H2, J, rv, q⟩ := hs; exact ⟨v, H2, J.os, J.bare, J.base, J.hok, rv, q⟩
    | brk => obtain ⟨_, _, _, q⟩ := hs; exact q.elim
    | cont => obtain ⟨_, _, _, q⟩ := hs; exact q.elim

theorem Fun.g {x ql : Str} {st : Stmt} {f : Addr} {fd : FuncData} {N ps : List Str} {k : Nat} {sp : Sp} (F : Fun K x ql st f fd) (S : FnScope N ps (defScope st)) (cnt : ∀ vs H Q E, sp vs H Q E → vs.length = ps.length)
    (hb : ∀ (cdv : Value) (A : Around) (ou : List Env) (s : Shared) (H : Hp) (vs : List V) (Q : VK) (E : XK), A.guards = some [] → Room k (A.deeper (envOfC ql (defScope st) s.heap.objs.size f cdv)) → sp vs H Q E →
      ∃ t, PSs (cxOf CX0 P w K mg base N ql (defScope st) f cdv A ou s H E).nox (defBody st) t ∧ t { nx := fun _ H' => Q .non H', rt := Q } (start N vs) H) : FnG P w K mg base CX0 (k + 1) f fd ps sp := by
  obtain ⟨_, _, _, _, _, _, cdv, _, _, rfl, lk, hcd⟩ := F.ex
  exact fn_g lk hcd S cnt fun A ou s H vs Q E hg hr hsp => let ⟨t, h, q⟩ := hb cdv A ou s H vs Q E hg hr hsp; ⟨t, h.nox, q⟩
end

section
variable {X : Cx} {CX : CXT} {k : Nat} {f : Addr} {fd : FuncData} {ps : List Str} {sp : Sp} {dvs : List V} {ds : List Value} {E : XK} {x : Str} {p pos : Pos} {e : Expr} {es : List Expr} {t : TA}
theorem run_g {pins : List (Addr × Obj)} {σ : L2.St} {H : Hp} {s : Shared} {Q : VK} {us : List Value} {vs : List V} (F : FnG X.prog X.w X.K X.mg X.base CX k f fd ps sp) (hG : X.A.guards = some []) (hr : Room k X.A) (hb : Binds X.K fd ps ds) (hd : Vals dvs ds) (hx : Passes CX X E)
    (I : Inv X pins σ H s) (r : Vals vs us) (h : sp (vs ++ dvs) H Q E) : wpAny (model X.prog X.w) X.A (call (.ref f) us) (EP X pins σ Q) X.xe s := by
  have r2 : Vals (vs ++ dvs) (us ++ ds) := r.append hd
  have hn : (us ++ ds).length = ps.length := r2.length ▸ F.count _ _ _ _ h
  apply wpAny_call
  refine codeAny_mono (F.go X.A X.stack s H ⟨us, []⟩ _ _ Q E hG hr I.env0 (hb s us I.kIn hn) r2 h) ?_
  rintro (er | fl) s' hq
  · exact hx pins σ H s er s' I hq
  · cases fl <;> first | exact I.after hq | exact hq.elim
theorem pe_callG (F : FnG X.prog X.w X.K X.mg X.base CX k f fd ps sp) (hG : X.A.guards = some []) (hr : Room k X.A) (hg : Gl X x) (hm : X.mg x = some (.ref f)) (hk : PySem.W.keepIn X.K (.ref f) = true) (hb : Binds X.K fd ps ds) (hd : Vals dvs ds) (hx : Passes CX X E)
    (ha : PA X (e :: es) t) (hdb : (x == ("__debug__" : Str)) = false := by decide) (he : starEach (e :: es) X.env = (false, eval e X.env) :: starEach es X.env := by rfl) (hpl : (backTo pos (starEach es X.env)).any (·.1) = false := by rfl) :
    PE X (.Call (.Name x p) (e :: es) [] pos) (tCall sp dvs E t) := by
  constructor
  intro pins s σ H Q I h
  apply wpAny_Call_Name_kw
  refine ld_glob I hg hm (PySem.W.callWith_K (h₀ := X.base) I.ok.mod.kin hk (thn (ha.run pos pins s σ H _ I h) ?_) he hpl) hdb
  rintro us s1 ⟨vs, H1, I1, r, q⟩
  exact ⟨I1.kIn, run_g F hG hr hb hd hx I1 r q⟩
end

/-! ### repr of data -/
/-- data that can be shown: no dicts, ints of known size, not too deep, not too long -/
structure Shw (d : PyData) : Prop where
  sh : d.showable = true
  nd : d.hasDict = false
  dp : d.depth ≤ 60
  ln : d.shown.length ≤ sizeLine
def rRepr (K : PySem.W.Frag) : List V → Hp → VK → Prop := fun xs H Q => ∃ v d, xs = [v] ∧ Dp K H v d ∧ Shw d ∧ Q (.str d.shown) H
theorem call_repr {X : Cx} (hG : X.A.guards = some []) (hu : X.A.units + 64 < cLine) : CallR X (.builtin "repr") (rRepr X.K) := by
  intro pins s σ H xs us Q I r h
  obtain ⟨v, d, rfl, hd, hs, q⟩ := h
  obtain ⟨u, rfl, ru⟩ := vals1 r
  obtain ⟨as, R⟩ := Dp.reads I d v u hd ru
  have fin : ∀ {h' : Heap} {t : Tok} {tk : Nat}, (∀ b o, s.heap.get? b = some o → h'.get? b = some o) → EP X pins σ Q (.str d.shown t) { s with heap := h', toks := tk } := fun k => ⟨.str d.shown, H, I.kept k, ⟨_, rfl⟩, q⟩
  have big : ∀ a, u = .ref a → wpAny (model X.prog X.w) X.A (call (.builtin "repr") [u]) (EP X pins σ Q) X.xe s := by
    rintro a rfl
    exact repr_of_reads' R hs.sh (PyData.noDict_hsm hs.nd) hG (by have := hs.dp; omega) (fun _ _ z => z) (fun h' u tk k => fin k) hs.ln
  have ln := hs.ln
  have sh := hs.sh
  cases R with
  | none => exact PySem.P.repr_of_none (fin fun _ _ z => z)
  | bool b => exact PySem.P.repr_of_bool (fin fun _ _ z => z)
  | int i t => exact PySem.P.repr_of_int (by simpa [PyData.showable] using sh) (fin fun _ _ z => z)
  | str y t => exact PySem.P.repr_of_str (fin fun _ _ z => z) (by simpa only [PyData.shown] using ln)
  | list => exact big _ rfl
  | tuple => exact big _ rfl
  | dict => exact big _ rfl

/-! ### the end of a law: its promise, where nothing is being shown -/
section
variable {P : Program} {w : World} {K : PySem.W.Frag} {mg mb : Str → Option Value} {CX : CXT} {k : Nat} {fa a : Addr} {fd : FuncData} {x : Str} {sp : Sp} {s1 : Shared} {vs : List Value} {ns : List Int}
/-- from an abstract heap that tracks at most the script -/
theorem law_at {H : Hp} (KX : K.In s1.heap) (hns : s1.heap.Ns mainGlobals mg) (hb : s1.heap.Ns builtinsNs mb) (hbb : ∀ x : Str, x ≠ "__name__" → mb x = bootBuiltins x) (hlim : s1.heap.NoLimit) (hgen : s1.gens = #[])
    (ha : s1.heap.get? a = some { cls := .type "list", data := .seq vs.toArray }) (hr : Room k callerA)
    (F : ∀ base : Heap, K.In base → base.Ns mainGlobals mg → FnG P w K mg base CX k fa fd [x] sp) (hbind : ∀ (s : Shared) (u : Value), BindsTo s fd ⟨[u], []⟩ [(x, u)])
    (hsp : sp [.ref a] H (fun v _ => v = .bl true) fun _ _ _ => False) (hCX : ∀ e s', CX [] H s1 (fun _ _ _ => False) e s' → False)
    (only : Only H) (hok : HOk P w H s1.heap) (near : ∀ b, H b ≠ none → b = a) (apart : H a ≠ none → K.lookup a = none) :
    codeAny (model P w) callerA (.call (.ref fa) ⟨[.ref a], []⟩) (fun r s' => r = .ok (.ret (.bool true)) ∧ OldK s1.heap s'.heap ∧ s'.os = s1.os ∧ AllBare s'.gens) s1 := by
  have noDict : ∀ {b : Addr} {o : Obj} {es : Array DictEntry} {ep : Nat}, s1.heap.get? b = some o → o.data = .dict es ep → H b = none := by
    intro b o es ep e d
    by_cases q : H b = none
    · exact q
    · cases near b q
      rw [ha] at e
      cases e
      cases (show Data.seq vs.toArray _ = Data.dict es ep from d)
  have ns : ∀ {b : Addr} {m : Str → Option Value}, s1.heap.Ns b m → (hidT s1.heap H).Ns b m := fun {b m} z => by
    obtain ⟨o, es, ep, e, d, r⟩ := z
    exact ⟨o, es, ep, hidT_get e (noDict e d), d, r⟩
  have kb : K.In (hidT s1.heap H) := by
    intro b o e
    refine hidT_get (KX b o e) ?_
    by_cases q : H b = none
    · exact q
    · cases near b q
      rw [apart q] at e
      cases e
  have M : Mod K mg (hidT s1.heap H) := { kin := kb, glob := ns hns, blt := ⟨mb, ns hb, hbb⟩, nolimit := let ⟨mc, h1, h2⟩ := hlim; ⟨mc, ns h1, h2⟩ }
  have e0 : Env0 P w K mg (hidT s1.heap H) callerA [] s1 H := { frames := rfl, mod := M, bs := fun b o e => of_hidT e, bsz := Nat.le_of_eq (hidT_size _ _), funs := trivial, frf := (fun b z => nomatch z), hok := hok, bare := .of_eq hgen }
  refine codeAny_mono ((F _ kb (ns hns)).go callerA [] s1 H ⟨[.ref a], []⟩ [.ref a] [.ref a] _ _ rfl hr e0 (hbind s1 (.ref a)) (.cons rfl .nil) hsp) ?_
  rintro (e | fl) s' h
  · exact (hCX e s' h).elim
  · cases fl <;> first | exact h.elim | skip
    obtain ⟨v, H', os, bare, un, hok', r', q⟩ := h
    cases (show v = .bl true from q)
    cases (show _ = Value.bool true from r')
    refine ⟨rfl, OldK.of_keep fun b o e => ?_, os, bare⟩
    rcases only b with q | ⟨ob, xs, q⟩
    · exact un.keep b o e q (fun z => nomatch z) (fun z => nomatch z)
    · obtain ⟨e1, _⟩ := hok b _ q
      obtain ⟨e2, _⟩ := hok' b _ (un.frzs b ob _ q)
      exact e2.trans (e1.symm.trans e)
end
theorem law_g {P : Program} {w : World} {K : PySem.W.Frag} {mg mb : Str → Option Value} {CX : CXT} {k : Nat} {fa a : Addr} {fd : FuncData} {x : Str} {sp : Sp} {s1 : Shared} {vs : List Value} {ns : List Int}
    (KX : K.In s1.heap) (hns : s1.heap.Ns mainGlobals mg) (hb : s1.heap.Ns builtinsNs mb) (hbb : ∀ x : Str, x ≠ "__name__" → mb x = bootBuiltins x) (hlim : s1.heap.NoLimit) (hgen : s1.gens = #[])
    (ha : s1.heap.get? a = some { cls := .type "list", data := .seq vs.toArray }) (hi : IntsAre vs ns) (hl : ns.length ≤ sizeLine) (hr : Room k callerA)
    (F : ∀ base : Heap, K.In base → base.Ns mainGlobals mg → FnG P w K mg base CX k fa fd [x] sp) (hbind : ∀ (s : Shared) (u : Value), BindsTo s fd ⟨[u], []⟩ [(x, u)])
    (hsp : ∀ H : Hp, Only H → SqL K H a (ns.map V.int) → sp [.ref a] H (fun v _ => v = .bl true) fun _ _ _ => False) (hCX : ∀ H e s', CX [] H s1 (fun _ _ _ => False) e s' → False) :
    codeAny (model P w) callerA (.call (.ref fa) ⟨[.ref a], []⟩) (fun r s' => r = .ok (.ret (.bool true)) ∧ OldK s1.heap s'.heap ∧ s'.os = s1.os ∧ AllBare s'.gens) s1 := by
  have rv := vals_ints hi
  have hlen : vs.length = ns.length := hi.length
  rcases hk : K.lookup a with _ | o
  · have on : Only (fun b => if b = a then some (.frz { cls := .type "list", data := .seq vs.toArray } (.lst (ns.map V.int))) else none) := fun b => by
      by_cases e : b = a
      · exact .inr ⟨_, _, if_pos e⟩
      · exact .inl (if_neg e)
    have sq := fun (h : _) => hsp _ on h
    refine law_at KX hns hb hbb hlim hgen ha hr F hbind (sq (.inl (.inr ⟨_, if_pos rfl⟩))) (hCX _) on (fun b u z => ?_) (fun b z => ?_) fun _ => hk
    · by_cases e : b = a
      · cases e
        rw [if_pos rfl] at z
        cases z
        exact ⟨ha, by rw [List.length_map]; exact hl, vs, _, rv, ha⟩
      · rw [if_neg e] at z
        cases z
    · by_cases e : b = a
      · exact e
      · exact (z (if_neg e)).elim
  · have e := KX a o hk
    rw [ha] at e
    cases e
    have on : Only (fun _ => none) := fun _ => .inl rfl
    exact law_at KX hns hb hbb hlim hgen ha hr F hbind (hsp _ on (.inr ⟨_, vs.toArray, _, hk, rfl, rfl, rfl, by rw [List.size_toArray, hlen]; exact hl, by simpa using rv⟩)) (hCX _) on (fun b u z => nomatch (show (none : Option HO) = some u from z)) (fun b z => absurd rfl z) fun z => absurd rfl z

theorem walk_g {l : PySem.W.OpenLaw} {n k : Nat} {q : Program} {loose : List Str} {XP : (Str → Option Value) → Heap → Prop} {YP : World → Heap → Prop} {d : DefRec} {K : Params → PySem.W.Frag} {CX : CXT} {sp : PySem.W.Frag → Sp} {x : Str}
    (hn : l.most = some n) (hn2 : n ≤ sizeLine) (hdf : d.params.defaults = []) (hr : Room k callerA) (hY : ∀ (w : World) (h : Heap), YP w h → (K w.params).In h)
    (F : ∀ (w : World) (mg : Str → Option Value) (fa : Addr) (h : Heap), (K w.params).In h → h.Ns mainGlobals mg → mg d.name = some (.ref fa) →
      ∃ fd : FuncData, (∀ (s : Shared) (u : Value), BindsTo s fd ⟨[u], []⟩ [(x, u)]) ∧ ∀ base : Heap, (K w.params).In base → base.Ns mainGlobals mg → FnG l.prog w (K w.params) mg base CX k fa fd [x] (sp (K w.params)))
    (hsp : ∀ (K : PySem.W.Frag) (H : Hp) (a : Addr) (ns : List Int), ns.length ≤ n → Only H → SqL K H a (ns.map V.int) → sp K [.ref a] H (fun v _ => v = .bl true) fun _ _ _ => False)
    (hCX : ∀ (H : Hp) (s : Shared) (e : Value) (s' : Shared), CX [] H s (fun _ _ _ => False) e s' → False) : PySem.W.WalkO q loose XP YP l.row.toRowW d [] (fun f vs => PySem.call f vs) := by
  apply Att.attach_call hn hdf
  intro w s0 s1 mg mb fa o pm cd doc a vs ns G Y ho hd hcd hmg hobj hints hlen hg
  obtain ⟨fd, hb, hF⟩ := F w mg fa _ (hY w _ Y) G.T.g hmg
  exact law_g (hY w _ Y) G.T.g G.T.b G.T.builtins G.T.nolimit hg hobj hints (Nat.le_trans hlen hn2) hr hF hb (fun H hO hS => hsp _ H a ns hlen hO hS) fun H e s' => hCX H s1 e s'
end Rw
set_option Elab.async false
set_option linter.all false
set_option maxRecDepth 100000
set_option maxHeartbeats 4000000
/-! own layer: exceptions of one field, as values and caught -/
namespace Rw
open PySem PySem.Spec PySem.Calls PyProof.Rows
open PySem.HandSPX (refsVE refsVE_contains excO)
section
variable {M : Model} {prog : Program} {w : World} {A : Around} {E : Value → Shared → Prop} {R : Result → Shared → Prop} {h : Heap} {g : Array GenState} {d : Drawn} {t : Nat} {os : OsState}
variable {nm q : Str} {C N : Addr} {bs bm bmB : List Value} {hdct : Bool} {sn : List Str} {sub : List Value} {ab : Bool} {col : Option Bool} {dd : Option Addr} {k0 k1 k2 k3 k5 : Option Value} {B newId initId : String} {rest : List Value} {kw : List (Str × Value)}
/-- the check ahead of __new__, keywords too -/
theorem xnew_check (F : ExcBaseFacts B newId initId bmB) (hT : ∀ X : String, bm.contains (.type X) = bmB.contains (.type X)) {Q : Unit → Shared → Prop} (hC : h.get? C = some (excClassObj nm q C N bs bm hdct sn sub ab col dd k0 k1 k2 k3 k5 newId))
    (hq : Q () ⟨h, g, d, t, os⟩) : wpAny M A (checkBuiltinCall newId ⟨.ref C :: rest, kw⟩) Q E ⟨h, g, d, t, os⟩ := by
  have hb : (Value.ref C :: bm).contains (.type B) = true := by rw [List.contains_cons, hT, F.hasB, Bool.or_true]
  have := F.noStar
  simp only [checkBuiltinCall, F.newKind, F.newSplit, F.newRow]
  repeat (first | with_reducible refine wpAny_loadPart_at hC ?_ | (refine wpAny_isSubtype_exc hC ?_; rw [hb]) | with_reducible refine wpAny_staticBase_exc hC ?_ | with_reducible refine wpAny_madeBy_exc hC ?_ | simp only [bne_self_eq_false, Bool.false_eq_true, if_false] | wp_step)
  exact hq
theorem xnew (F : ExcBaseFacts B newId initId bmB) (hT : ∀ X : String, bm.contains (.type X) = bmB.contains (.type X)) (hC : h.get? C = some (excClassObj nm q C N bs bm hdct sn sub ab col dd k0 k1 k2 k3 k5 newId))
    (hq : R (.ok (.ret (.ref (h.objs.size + 1)))) ⟨(h.push (W.kdv_tup rest)).push (excO C h.objs.size), g, d, t, os⟩) (hl : rest.length ≤ sizeLine) : codeAny (model prog w) A (.builtin newId ⟨.ref C :: rest, kw⟩) R ⟨h, g, d, t, os⟩ := by
  have he := F.ends
  have h1 : (Value.ref C :: bm).contains (.type B) = true := by rw [List.contains_cons, hT, F.hasB, Bool.or_true]
  have h2 : (Value.ref C :: bm).contains (.type "AttributeError") = false := by rw [List.contains_cons, hT, F.noAttr]; rfl
  have h3 : (Value.ref C :: bm).contains (.type "NameError") = false := by rw [List.contains_cons, hT, F.noName]; rfl
  apply codeAny_builtinAt F.entry
  unfold Builtin.«BaseException.__new__»
  apply PySem.wpAt_bind
  show PySem.wpAt _ _ _ (stack >>= _) _ _ _
  refine PySem.wpAt_bind (PySem.wpAt_stack fun p below => PySem.wpAt_of_wpAny ?_)
  wp_walk
  apply PySem.wpAt_of_wpAny
  rw [F.owner]
  repeat (first | with_reducible refine wpAny_madeHere_exc F.canon hC ?_ | with_reducible refine wpAny_loadPart_at hC ?_ | (with_reducible refine wpAny_isSubtype_exc hC ?_; first | rw [h1] | rw [h2] | rw [h3]) | wp_step)
  show R _ _
  rw [Heap.size_push]
  exact hq
/-- C(..), C's own __init__ is called on the new exception -/
theorem xcall (F : ExcBaseFacts B newId initId bmB) (hT : ∀ X : String, bm.contains (.type X) = bmB.contains (.type X)) {fI : Addr} (hC : h.get? C = some (excClassObj nm q C N bs bm hdct sn sub ab col dd k0 k1 k2 k3 k5 newId))
    (hi : W.Looks (model prog w) h (typeLookup (.ref C) "__init__") (some (.ref fI))) (hb : ∀ self, W.Looks (model prog w) h (bindSpecial (.ref fI) self) (.ref fI, [self])) (hl : rest.length ≤ sizeLine)
    (hq : codeAny (model prog w) (A.under (.builtin "type.__call__" ⟨.ref C :: rest, kw⟩)) (.call (.ref fI) ⟨.ref (h.objs.size + 1) :: rest, kw⟩) (W.InitBack (h.objs.size + 1) R) ⟨(h.push (W.kdv_tup rest)).push (excO C h.objs.size), g, d, t, os⟩) :
    codeAny (model prog w) A (.call (.ref C) ⟨rest, kw⟩) R ⟨h, g, d, t, os⟩ := by
  have f1 := tc_lookup
  have f2 := tc_bind (.ref C)
  have hTy : (⟨h, g, d, t, os⟩ : Shared).TypeIs (.ref C) "type" := ⟨_, hC, rfl⟩
  apply codeAny_of_tree
  show wpAny _ _ (callAny (.ref C) _) _ _ _
  repeat (any_goals (first | assumption | with_reducible refine wpAny_loadPart_at hC ?_ | wp_step))
  refine ⟨rfl, codeAny_call_builtin_at (Code.quiet_builtin _ (by decide +kernel)) entry_typeCall ?_⟩
  have f3 := tc_sub
  simp only [checkBuiltinCall, tc_kind, tc_split]
  repeat (any_goals (first | assumption | with_reducible refine wpAny_loadPart_at hC ?_ | with_reducible refine wpAny_onRaise ?_ | with_reducible refine wpAny_map ?_ | wp_step))
  refine codeAny_call_builtin_code (Code.quiet_builtin _ F.quiet) (xnew_check F hT hC ?_)
  refine xnew F hT hC ?_ hl
  show wpAny _ _ _ _ _ _
  have k : ∀ b o, h.get? b = some o → ((h.push (W.kdv_tup rest)).push (excO C h.objs.size)).get? b = some o := fun b o e => Heap.get?_push_of_some _ (Heap.get?_push_of_some _ e)
  have h1 := k _ _ hC
  have h2 : ((h.push (W.kdv_tup rest)).push (excO C h.objs.size)).get? (h.objs.size + 1) = some ({ cls := .ref C, data := .fields #[.ref h.objs.size, .none, .none, .none, .bool false, .none] } : Obj) := by heap_get
  have h3 : (Value.ref C :: bm).contains (.ref C) = true := by simp
  have i1 := hi.keeps k
  have b1 := (hb (.ref (h.objs.size + 1))).keeps k
  unfold isInstance
  repeat (first | with_reducible refine wpAny_loadPart_at h2 ?_ | (refine wpAny_isSubtype_exc h1 ?_; rw [h3]) | wp_step)
  show wpAny _ _ (typeLookup (.ref C) _) _ _ _
  refine i1.at (wpAny_holding (wpAny_bind (b1.at (wpAny_bind (wpAny_call (codeAny_mono hq ?_))))))
  rintro (e | fl) s' z
  · exact z
  · cases fl <;> first | exact z.elim | skip
    obtain ⟨rfl, z⟩ := z
    first
      | exact wpAny_pure (wpAny_pure z)
      | (wp_walk; exact z)
end
end Rw
set_option Elab.async false
set_option linter.all false
set_option maxRecDepth 100000
set_option maxHeartbeats 4000000
namespace Rw
open PySem PySem.Spec PySem.Calls PyProof.Rows L2
open PySem.W (findIn findObj takesIn specialIn mroIn clsIn hasDictIn subIn typeIn)
section
variable {prog : Program} {w : World} {A : Around} {E : Value → Shared → Prop} {s : Shared} {K : PySem.W.Frag} {x D : Addr} {ox : Obj} {od : Option Obj}
/-- e.__class__ of an exception, whatever its own dict holds -/
theorem xcls {Q : Option Value → Shared → Prop} (T : ExcC K D) (X : K.In s.heap) (I : PySem.W.InstAt s.heap x ox D od) (h : Q (some (.ref D)) { s with toks := s.toks + 1 }) : wpAny (model prog w) A (getAttr? (.ref x) "__class__") Q E s := by
  obtain ⟨ga, gt, su, hd, ha, hn, ht, hm⟩ := T
  have hf : findObj K D od "__class__" = some (.bind (.builtin "getset_descriptor.__get__") (.builtin "object.__class__")) := by
    obtain ⟨cd, hc, _⟩ := PySem.W.any_some hd
    simp [findObj, hc, ha, hn, ht]
  obtain ⟨hp, g, d, t, os⟩ := s
  have l0 := I.type (M := model prog w)
  have l1 := PySem.W.looks_findIn (M := model prog w) X ga
  have l2 := PySem.W.looks_findIn (M := model prog w) X gt
  have l3 := PySem.W.looks_find (M := model prog w) X I hf
  have sb : PySem.W.Looks (model prog w) hp (isInstance (.ref x) (.type "BaseException")) true := l0.andThen (PySem.W.looks_subIn X su)
  have n0 : (false && onTheHeap (Value.builtin "BaseException.__getattribute__")) = false := rfl
  have n1 : (onTheHeap (Value.ref D) && Value.builtin "BaseException.__getattribute__" == Value.builtin "object.__getattribute__") = false := by
    rw [show (Value.builtin "BaseException.__getattribute__" == Value.builtin "object.__getattribute__") = false by decide +kernel, Bool.and_false]
  unfold getAttr? getAttrBy? getAttrBy
  refine wpAny_bind (wpAny_mkText (wpAny_bind (wpAny_attempt (wpAny_holding (wpAny_bind (l0.at (wpAny_bind (l1.at ?_))))))))
  refine PySem.W.KFB.if_not n1 ?_
  unfold getAttrByItsOwn hookBefore
  apply wpAny_bind
  refine PySem.W.KFB.if_so rfl (l2.at (wpAny_bind (wpAny_attempt (wpAny_holding ?_))))
  unfold callGetattribute
  refine PySem.W.KFB.if_not n0 ?_
  unfold boundAndCalled
  rw [PySem.F.excAttr_ValueError.ga.bind (.ref x)]
  refine wpAny_bind (wpAny_pure (wpAny_call (codeAny_call_builtin PySem.F.excAttr_ValueError.ga.plain PySem.F.entry_bexc_ga ?_)))
  refine @PySem.W.check_slot (model prog w) _ _ ⟨hp, g, d, t + 1, os⟩ "BaseException.__getattribute__" "BaseException" "__getattribute__" (.ref x) [.str "__class__" t] [] _ (by decide +kernel) (by decide +kernel) sb (PySem.F.args_bexc_ga _ _) ?_
  unfold Builtin.«object.__getattribute__»
  refine wpAny_bind (wpAny_of_eq (a := ((Value.ref x : Value), [Value.str "__class__" t])) (by first | rfl | (simp only [slotArgs]; rfl)) ?_)
  refine wpAny_bind (wpAny_pure (wpAny_bind (l0.at (wpAny_bind (l3.at ?_)))))
  refine (show wpAny _ _ (holding [Value.builtin "object.__class__"] (call (.builtin "getset_descriptor.__get__") [.builtin "object.__class__", .ref x, .ref D]) >>= ret) _ _ _ from wpAny_bind (wpAny_holding (wpAny_call (PySem.W.class_get (s := ⟨hp, g, d, t + 1, os⟩) X I hm (wpAny_pure ?_)))))
  refine (show wpAny _ _ (handedOut (.ref D)) _ _ _ from ?_)
  rw [PySem.W.handedOut_of (v := .ref D) rfl]
  first
    | exact wpAny_pure (wpAny_pure h)
    | exact wpAny_pure h
    | exact wpAny_pure (wpAny_bind (wpAny_pure (wpAny_pure h)))
theorem xkit (T : ExcC K D) : PySem.W.KitX K (.ref x) (.ref D) (fun h => ∃ ox od, PySem.W.InstAt h x ox D od) := by
  obtain ⟨cd, hc, _⟩ := PySem.W.any_some T.hd
  have at_cls : ∃ c' d' cd' sl', K.lookup D = some ⟨c', d', .cls cd', sl'⟩ := by
    unfold clsIn at hc
    split at hc
    · exact ⟨_, _, _, _, by assumption⟩
    · cases hc
  obtain ⟨c', d', cd', sl', ho⟩ := at_cls
  constructor
  · rintro M h X ⟨ox, od, I⟩
    exact I.type
  · intro M h X _ A' Q' E' s' k q
    unfold isType loadHead
    exact wpAny_bind (wpAny_loadPart (k _ _ (X _ _ ho)) (wpAny_pure q))
  · intro h tp dd its n sl X htp
    cases e : (Value.ref D == .ref tp) with
    | false => rfl
    | true =>
      cases Value.ref.inj (beq_iff_eq.mp e)
      rw [X _ _ ho] at htp
      cases htp
  · rintro prog w A E Q s X ⟨ox, od, I⟩ k
    exact xcls T X I k
end

/-! ### an exception of one field as a value -/
/-- at a an exception of C, its own dict at dx holds v as f -/
def exH (H : Hp) (C : Addr) (f : Str) (v : V) (a dx : Addr) : Hp := upd (upd H dx (exd dx [(f, v)])) a (exo a C (some dx))
structure ExAt (H : Hp) (C : Addr) (f : Str) (v : V) (a dx : Addr) : Prop where
  e : H a = some (exo a C (some dx))
  d : H dx = some (exd dx [(f, v)])
theorem exH_at {H : Hp} {C : Addr} {f : Str} {v : V} {a dx : Addr} (h : dx ≠ a) : ExAt (exH H C f v a dx) C f v a dx := ⟨upd_same, (upd_ne h).trans upd_same⟩
theorem exH_old {H : Hp} {C : Addr} {f : Str} {v : V} {a dx b : Addr} {o : HO} (ha : H a = none) (hd : H dx = none) (h : H b = some o) : exH H C f v a dx b = some o := by
  rw [exH, upd_ne (ne_of_none h ha), upd_ne (ne_of_none h hd)]
  exact h
theorem exH_over {H : Hp} {C : Addr} {f : Str} {v : V} {a dx : Addr} {o : HO} (h : dx ≠ a) : exH (upd H a o) C f v a dx = exH H C f v a dx := by
  funext b
  unfold exH upd
  by_cases e1 : b = a
  · simp [e1]
  · by_cases e2 : b = dx <;> simp [e1, e2]
/-- what the written part says of such a class -/
structure ExT (K : PySem.W.Frag) (C fI : Addr) (f : Str) : Prop where
  o : OexC K C
  x : XfC K C
  c : ExcC K C
  i : findIn K (.ref C) "__init__" = some (some (.ref fI))
  t : typeIn K (.ref fI) = some (.type "function")
  no : findIn K (.ref C) f = some none
structure ExT0 (K : PySem.W.Frag) (C fI : Addr) : Prop where
  o : OexC K C
  x : XfC K C
  c : ExcC K C
  i : findIn K (.ref C) "__init__" = some (some (.ref fI))
  t : typeIn K (.ref fI) = some (.type "function")
/-- what __init__(self, f) does: self.f = f -/
def spXI (C : Addr) (f : Str) : Sp := fun vs H Q _ => ∃ a v, vs = [.ref a, v] ∧ H a = some (exo a C none) ∧ ∀ dx, H dx = none → dx ≠ a → Q .non (exH H C f v a dx)
theorem ok_xi {P : Program} {w : World} {K : PySem.W.Frag} {mg : Str → Option Value} {base : Heap} {ql f : Str} {st : Stmt} {C fI : Addr} {fd : FuncData} {q1 q2 q3 q4 : Pos} (F : Fun K "__init__" ql st fI fd) (T : ExT K C fI f) (S : FnScope ["self", f] ["self", f] (defScope st))
    (hb : defBody st = [.Assign [.Attribute (.Name "self" q1) f q2] (.Name f q3) q4]) (hd : (f == ("__debug__" : Str)) = false) (hd2 : (f == ("__classdict__" : Str)) = false) : FnOk P w K mg base CX0 1 fI fd ["self", f] (spXI C f) := by
  have loc : ∀ y ∈ (["self", f] : List Str), Vis (defScope st) y := fun y hy => (S.par y hy).imp id .inl
  refine F.ok S (fun vs H Q E h => ?_) (fun cdv A ou s H vs Q E hr h => ?_)
  · obtain ⟨a, v, rfl, _⟩ := h
    rfl
  · obtain ⟨a, v, rfl, ha, k⟩ := h
    rw [hb]
    refine ⟨_, pss_one (ps_ost (pe_var (i := 0) rfl (loc _ (by simp))) (pe_var (i := 1) rfl (loc _ (by simp)) hd hd2)), ?_⟩
    exact ⟨_, rfl, _, rfl, a, C, rfl, T.o, T.no, .inl ⟨ha, fun dx n ne => k dx n ne⟩⟩
section
variable {X : Cx} {C fI : Addr} {f x : Str} {fd : FuncData} {p pos : Pos} {e : Expr} {te : TE} {ta : TA} {k : Nat}
/-- a new exception of one field -/
def tEx1 (C : Addr) (f : Str) (ta : TA) : TE := fun σ H Q => ta σ H fun vs H1 => ∃ v, vs = [v] ∧ ∀ a dx, H1 a = none → H1 dx = none → dx ≠ a → Q (.ref a) (exH H1 C f v a dx)
theorem run_ex {pins : List (Addr × Obj)} {σ : L2.St} {H : Hp} {s : Shared} {Q : VK} {us : List Value} {kw : List (Str × Value)} {u : Value} {v : V} (T : ExT X.K C fI f) (F : FnOk X.prog X.w X.K X.mg X.base CX0 1 fI fd ["self", f] (spXI C f)) (hr : Room 2 X.A)
    (hb : ∀ (s : Shared) (a : Value), BindsTo s fd ⟨a :: us, kw⟩ [("self", a), (f, u)]) (hl : us.length ≤ 1) (I : Inv X pins σ H s) (r : RelV v u) (h : ∀ a dx, H a = none → H dx = none → dx ≠ a → Q (.ref a) (exH H C f v a dx)) :
    wpAny (model X.prog X.w) X.A (call (.ref C) us kw) (EP X pins σ Q) X.xe s := by
  obtain ⟨nm, q, N, bs, bm, sn, sub, ab, col, dd, k0, k1, k2, k3, k5, hC, hbm⟩ := T.o.cls
  obtain ⟨hp, g, dr, tk, os⟩ := s
  have kk : ∀ b o, hp.get? b = some o → ((hp.push (PySem.W.kdv_tup us)).push (PySem.HandSPX.excO C hp.objs.size)).get? b = some o := fun b o z => Heap.get?_push_of_some _ (Heap.get?_push_of_some _ z)
  have hget : ((hp.push (PySem.W.kdv_tup us)).push (PySem.HandSPX.excO C hp.objs.size)).get? (hp.objs.size + 1) = some (PySem.HandSPX.excO C hp.objs.size) := by heap_get
  have hn : H (hp.objs.size + 1) = none := I.hok.fresh (Nat.le_succ _)
  have I2 : Inv X pins σ (upd H (hp.objs.size + 1) (exo (hp.objs.size + 1) C none)) ⟨(hp.push (PySem.W.kdv_tup us)).push (PySem.HandSPX.excO C hp.objs.size), g, dr, tk, os⟩ :=
    I.laid (t' := tk) (a := hp.objs.size + 1) (o := exo (hp.objs.size + 1) C none) kk (Nat.le_succ _) (exo_ok hget)
  have r2 : Vals [V.ref (hp.objs.size + 1), v] [Value.ref (hp.objs.size + 1), u] := .cons rfl (.cons r .nil)
  have sp : spXI C f [V.ref (hp.objs.size + 1), v] (upd H (hp.objs.size + 1) (exo (hp.objs.size + 1) C none)) (fun v2 H2 => v2 = .non ∧ Q (.ref (hp.objs.size + 1)) H2) (fun _ _ _ => False) := by
    refine ⟨_, v, rfl, upd_same, fun dx n ne => ⟨rfl, ?_⟩⟩
    rw [exH_over ne]
    refine h _ dx hn ?_ ne
    rw [upd_ne ne] at n
    exact n
  refine wpAny_call (xcall PySem.F.excBase_ValueError (fun Y => PySem.HandSPX.refsVE_contains Y bm hbm) (I.kIn _ _ hC) (PySem.W.looks_findIn I.kIn T.i) (fun self => PySem.W.bind_fn I.kIn self T.t) (Nat.le_trans hl (by decide)) ?_)
  refine codeAny_mono (F.run _ X.stack _ _ ⟨Value.ref (hp.objs.size + 1) :: us, kw⟩ [Value.ref (hp.objs.size + 1), u] _ _ (fun _ _ _ => False) (hr.make C us kw) (I2.env0.make C us kw) (hb _ _) r2 sp) ?_
  rintro (er | fl) s' hq
  · exact hq.elim
  · cases fl <;> first | exact hq.elim | skip
    obtain ⟨v2, H2, I3, rv, ev, q3⟩ := I2.after hq
    subst ev
    exact ⟨rv, ⟨V.ref (hp.objs.size + 1), H2, I3, rfl, q3⟩⟩
/-- C(e) -/
theorem pe_ex1 (T : ExT X.K C fI f) (F : FnOk X.prog X.w X.K X.mg X.base CX0 1 fI fd ["self", f] (spXI C f)) (hr : Room 2 X.A) (hb : ∀ (s : Shared) (a u : Value), BindsTo s fd ⟨[a, u], []⟩ [("self", a), (f, u)]) (hg : Gl X x) (hm : X.mg x = some (.ref C)) (ha : PE X e te)
    (hdb : (x == ("__debug__" : Str)) = false := by decide) (he : starEach (e :: []) X.env = (false, eval e X.env) :: starEach [] X.env := by rfl) (hpl : (backTo pos (starEach [] X.env)).any (·.1) = false := by rfl) : PE X (.Call (.Name x p) [e] [] pos) (tEx1 C f (tCons te tNil)) := by
  constructor
  intro pins s σ H Q I h
  apply wpAny_Call_Name_kw
  refine ld_glob I hg hm (PySem.W.callWith_K (h₀ := X.base) I.ok.mod.kin T.o.kC (thn ((pa_cons ha pa_nil he).run pos pins s σ H _ I h) ?_) he hpl) hdb
  rintro us s1 ⟨vs, H1, I1, r, v, ev, q⟩
  subst ev
  obtain ⟨u, rfl, ru⟩ := vals1 r
  exact ⟨I1.kIn, run_ex (us := [u]) (kw := []) T F hr (fun s a => hb s a u) (Nat.le_of_ble_eq_true rfl) I1 ru q⟩
/-- C(f=e) -/
theorem pe_ex1k {kpos : Pos} (T : ExT X.K C fI f) (F : FnOk X.prog X.w X.K X.mg X.base CX0 1 fI fd ["self", f] (spXI C f)) (hr : Room 2 X.A) (hb : ∀ (s : Shared) (a u : Value), BindsTo s fd ⟨[a], [(f, u)]⟩ [("self", a), (f, u)]) (hg : Gl X x) (hm : X.mg x = some (.ref C)) (ha : PE X e te)
    (hdb : (x == ("__debug__" : Str)) = false := by decide) : PE X (.Call (.Name x p) [] [⟨some f, e, kpos⟩] pos) (tEx1 C f (tCons te tNil)) := by
  constructor
  intro pins s σ H Q I h
  apply wpAny_Call_Name_kw
  refine ld_glob I hg hm (PySem.W.callWith_KW0 (h₀ := X.base) I.ok.mod.kin T.o.kC rfl (thn ((pk_cons ha pk_nil).run pos pins s σ H _ I h) ?_) rfl) hdb
  rintro us s1 ⟨vs, H1, I1, r, v, ev, q⟩
  subst ev
  obtain ⟨u, rfl, ru⟩ := vals1 r
  exact ⟨I1.kIn, run_ex (us := []) (kw := [(f, u)]) T F hr (fun s a => hb s a u) (Nat.le_of_ble_eq_true rfl) I1 ru q⟩
/-- what __init__(self): pass does -/
def spXI0 (C : Addr) : Sp := fun vs H Q _ => ∃ a, vs = [.ref a] ∧ H a = some (exo a C none) ∧ Q .non H
def tEx0 (C : Addr) : TE := fun _ H Q => ∀ a, H a = none → Q (.ref a) (upd H a (exo a C none))
/-- C() -/
theorem pe_ex0 (T : ExT0 X.K C fI) (F : FnOk X.prog X.w X.K X.mg X.base CX0 1 fI fd ["self"] (spXI0 C)) (hr : Room 2 X.A) (hb : ∀ (s : Shared) (a : Value), BindsTo s fd ⟨[a], []⟩ [("self", a)]) (hg : Gl X x) (hm : X.mg x = some (.ref C))
    (hdb : (x == ("__debug__" : Str)) = false := by decide) : PE X (.Call (.Name x p) [] [] pos) (tEx0 C) := by
  constructor
  intro pins s σ H Q I h
  apply wpAny_Call_Name_kw
  refine ld_glob I hg hm (PySem.W.callWith_K0 I.kIn T.o.kC ?_) hdb
  obtain ⟨nm, q, N, bs, bm, sn, sub, ab, col, dd, k0, k1, k2, k3, k5, hC, hbm⟩ := T.o.cls
  obtain ⟨hp, g, dr, tk, os⟩ := s
  have kk : ∀ b o, hp.get? b = some o → ((hp.push (PySem.W.kdv_tup [])).push (PySem.HandSPX.excO C hp.objs.size)).get? b = some o := fun b o z => Heap.get?_push_of_some _ (Heap.get?_push_of_some _ z)
  have hget : ((hp.push (PySem.W.kdv_tup [])).push (PySem.HandSPX.excO C hp.objs.size)).get? (hp.objs.size + 1) = some (PySem.HandSPX.excO C hp.objs.size) := by heap_get
  have I2 : Inv X pins σ (upd H (hp.objs.size + 1) (exo (hp.objs.size + 1) C none)) ⟨(hp.push (PySem.W.kdv_tup [])).push (PySem.HandSPX.excO C hp.objs.size), g, dr, tk, os⟩ :=
    I.laid (t' := tk) (a := hp.objs.size + 1) (o := exo (hp.objs.size + 1) C none) kk (Nat.le_succ _) (exo_ok hget)
  have r2 : Vals [V.ref (hp.objs.size + 1)] [Value.ref (hp.objs.size + 1)] := .cons rfl .nil
  have sp : spXI0 C [V.ref (hp.objs.size + 1)] (upd H (hp.objs.size + 1) (exo (hp.objs.size + 1) C none)) (fun v2 H2 => v2 = .non ∧ Q (.ref (hp.objs.size + 1)) H2) (fun _ _ _ => False) :=
    ⟨_, rfl, upd_same, rfl, h _ (I.hok.fresh (Nat.le_succ _))⟩
  refine wpAny_call (xcall PySem.F.excBase_ValueError (fun Y => PySem.HandSPX.refsVE_contains Y bm hbm) (I.kIn _ _ hC) (PySem.W.looks_findIn I.kIn T.i) (fun self => PySem.W.bind_fn I.kIn self T.t) (Nat.zero_le _) ?_)
  refine codeAny_mono (F.run _ X.stack _ _ ⟨[Value.ref (hp.objs.size + 1)], []⟩ [Value.ref (hp.objs.size + 1)] _ _ (fun _ _ _ => False) (hr.make C [] []) (I2.env0.make C [] []) (hb _ _) r2 sp) ?_
  rintro (er | fl) s' hq
  · exact hq.elim
  · cases fl <;> first | exact hq.elim | skip
    obtain ⟨v2, H2, I3, rv, ev, q3⟩ := I2.after hq
    subst ev
    exact ⟨rv, ⟨V.ref (hp.objs.size + 1), H2, I3, rfl, q3⟩⟩
/-- e.f, e a value that is an exception -/
def tExF (n : Str) (K : PySem.W.Frag) (te : TE) : TE := fun σ H Q => te σ H fun x H1 => ∃ C a dx f v, x = .ref a ∧ ExAt H1 C f v a dx ∧ XfC K C ∧ findIn K (.ref C) n = some none ∧ n = f ∧ Q v H1
theorem pe_exf {n : Str} (he : PE X e te) (hb : attributeBase e n X.env (eval e X.env) = eval e X.env := by rfl) : PE X (.Attribute e n pos) (tExF n X.K te) := by
  constructor
  intro pins s σ H Q I h
  refine attr_of hb (thn (he.run pins s σ H _ I h) ?_)
  rintro u s1 ⟨x, H1, I1, rx, C, a, dx, f, v, rfl, ⟨h1, h2⟩, T, no, rfl, q⟩
  cases (show u = Value.ref a from rx)
  obtain ⟨t1, ho⟩ := exo_at I1.hok h1
  obtain ⟨mA, hns, rel⟩ := exd_at I1.hok h2
  obtain ⟨od, hod, hl⟩ := lookIn_ns hns
  obtain ⟨z, hz, rz⟩ := RelO.some_of (v := v) (o := mA n) (by have := rel n; simpa [List.lookup] using this)
  exact HandSPX.exc_get I1.kIn (ox := { cls := .ref C, dict := some dx, data := .fields #[.ref t1, .none, .none, .none, .bool false, .none] }) (od := some od) ⟨ho, rfl, rfl, hod⟩ T.ga T.gg T.exC (PySem.W.findObj_own T.hdC no rfl (by rw [hl, hz])) (handed_of rz) ⟨v, H1, I1.tok _, rz, q⟩
/-- isinstance(e, c), e a value that is an exception -/
def rIsX (K : PySem.W.Frag) : List V → Hp → VK → Prop := fun xs H Q => ∃ (c : V) (cv : Value) (b : Bool) (a D : Addr) (d : Option Addr), xs = [.ref a, c] ∧ H a = some (exo a D d) ∧ (∀ dx, d = some dx → ∃ fs, H dx = some (exd dx fs)) ∧ ExcC K D ∧ ClsV c cv ∧ PySem.W.kitOne K (.ref D) cv = some b ∧ Q (.bl b) H
theorem call_isX : CallR X (.builtin "isinstance") (rIsX X.K) := by
  intro pins s σ H xs us Q I r h
  obtain ⟨c, cv, b, a, D, d, rfl, ha, hd, T, hc, e, q⟩ := h
  obtain ⟨u1, u2, rfl, r1, r2⟩ := vals2 r
  cases (show u1 = Value.ref a from r1)
  cases hc.eq r2
  obtain ⟨t1, ho⟩ := exo_at I.hok ha
  have J : ∃ ox od, PySem.W.InstAt s.heap a ox D od := by
    cases d with
    | none => exact ⟨_, none, ho, rfl, rfl, trivial⟩
    | some dx =>
      obtain ⟨fs, h2⟩ := hd dx rfl
      obtain ⟨mA, hns, _⟩ := exd_at I.hok h2
      obtain ⟨od, hod, _⟩ := lookIn_ns hns
      exact ⟨_, some od, ho, rfl, rfl, hod⟩
  exact PySem.W.kia_one (xkit T) I.kIn J e (fun z => nomatch z) fun tk => ⟨.bl b, H, I.kept (t' := tk) fun _ _ z => z, rfl, q⟩
end
/-- isinstance against an own class, a class of the library, by what is a subclass of what -/
theorem kit_sub {K : PySem.W.Frag} {C D : Addr} {b : Bool} (hd : hasDictIn K C = true) (ht : typeIn K (.ref C) = some (.type "type")) (hs : subIn K (.ref C) (.ref C) = some true) (h : subIn K (.ref D) (.ref C) = some b) : PySem.W.kitOne K (.ref D) (.ref C) = some b := by
  unfold PySem.W.kitOne
  by_cases e : D = C
  · cases e
    cases (Option.some.inj (h.symm.trans hs))
    rw [if_pos (by simp)]
  · obtain ⟨cd, hc, _⟩ := PySem.W.any_some hd
    rw [if_neg (by simpa using e), PySem.W.kitCls, hc, ht]
    exact h
theorem kit_subT {K : PySem.W.Frag} {D : Addr} {n : String} {b : Bool} (hm : PySem.W.kitMeta n = true) (h : subIn K (.ref D) (.type n) = some b) : PySem.W.kitOne K (.ref D) (.type n) = some b := by
  unfold PySem.W.kitOne
  rw [if_neg (by simp), PySem.W.kitCls, if_pos hm]
  exact h
end Rw
set_option Elab.async false
set_option linter.all false
set_option maxRecDepth 100000
set_option maxHeartbeats 4000000
/-! own layer: data in heaps where only told addresses change; boxes of draws; how long data is when shown -/
namespace Rw
open PySem PySem.Spec PyProof.Rows L2

/-! ### what stays -/
/-- all that is tracked stays, but for M -/
def Kp (M : Addr → Prop) (H H' : Hp) : Prop := ∀ a o, H a = some o → ¬ M a → H' a = some o
section
variable {M M' : Addr → Prop} {H H1 H2 : Hp} {p : Addr} {o : HO}
theorem Kp.rf : Kp M H H := fun _ _ h _ => h
theorem Kp.tr (a : Kp M H H1) (b : Kp M H1 H2) : Kp M H H2 := fun x o h m => b x o (a x o h m) m
theorem Kp.nw (a : Kp M H H1) (h : H1 p = none) : Kp M H (upd H1 p o) := fun x u hx m => by
  have := a x u hx m
  rw [upd_ne (ne_of_none this h)]
  exact this
theorem Kp.wr (a : Kp M H H1) (h : M p) : Kp M H (upd H1 p o) := fun x u hx m => by
  rw [upd_ne (show x ≠ p from fun e => m (by rw [e]; exact h))]
  exact a x u hx m
/-- what was not tracked may be written -/
theorem Kp.wn (a : Kp M H H1) (h : H p = none) : Kp M H (upd H1 p o) := fun x u hx m => by
  rw [upd_ne (ne_of_none hx h)]
  exact a x u hx m
theorem Kp.mn (a : Kp M H H1) (h : ∀ x, M x → M' x) : Kp M' H H1 := fun x u hx m => a x u hx fun z => m (h x z)
theorem Kp.of (a : Same H H1) : Kp M H H1 := fun x u hx _ => a x u hx
theorem Kp.back (a : Kp M H H1) (hm : ¬ M p) (h : H1 p = none) : H p = none := by
  cases e : H p with
  | none => rfl
  | some u => rw [a p u e hm] at h; cases h
theorem Kp.sql {K : PySem.W.Frag} {xs : List V} {a : Addr} (e : Kp M H H1) (hm : ¬ M a) (h : SqL K H a xs) : SqL K H1 a xs := by
  rcases h with (h | ⟨o, h⟩) | h
  · exact .inl (.inl (e _ _ h hm))
  · exact .inl (.inr ⟨o, e _ _ h hm⟩)
  · exact .inr h
theorem Kp.sqt {K : PySem.W.Frag} {xs : List V} {a : Addr} (e : Kp M H H1) (hm : ¬ M a) (h : SqT K H a xs) : SqT K H1 a xs := by
  rcases h with (h | ⟨o, h⟩) | h
  · exact .inl (.inl (e _ _ h hm))
  · exact .inl (.inr ⟨o, e _ _ h hm⟩)
  · exact .inr h
/-- a new object is at no told place that is tracked -/
theorem nw1 {a : Addr} {u : HO} (hp : H p = none) (h : H a = some u) : p ≠ a := (ne_of_none h hp).symm
theorem nw2 {a : Addr} {u : HO} (hp : H p = none) (h : H a = some u) : a ≠ p := ne_of_none h hp
theorem nw_ne {a : Addr} {u : HO} (h : H a = some u) (hp : H p = none) : p ≠ a := (ne_of_none h hp).symm
end

theorem sz {n : Nat} (h : n ≤ 1000000) : n ≤ sizeLine := Nat.le_trans h (by decide)
theorem szl {n : Nat} (h : n ≤ 1000000) : n < sizeLine := Nat.lt_of_le_of_lt h (by decide)
theorem same_new {H : Hp} {p : Addr} {o : HO} (h : H p = none) : Same H (upd H p o) := fun b x e => by
  rw [upd_ne (ne_of_none e h)]
  exact e
theorem yes_if {σ : L2.St} {H : Hp} {A B : Bool → Hp → Prop} (h : A true H) : tYes σ H (fun b H' => if b = true then A b H' else B b H') := h
/-! ### what is walked n turns long: a comprehension, a loop -/
theorem lc_by {J : It} {n : Nat} {g : TG} {tt : TT} {te : TE} {vs : List Nat} {σ : L2.St} {H1 : Hp} {D : Addr} {Qd : Hp → Prop} (Pv : Nat → Hp → Prop) (h0 : Pv 0 (upd H1 D (.lst []))) (hgo : ∀ i H, i < n → Pv i H → J.go i H) (hst : ∀ H, Pv n H → J.stop n H)
    (hs : ∀ i x H H', i < n → Pv i H → J.yld i H x H' → g x (wipe σ vs) H' fun σ2 H2 => wipe σ2 vs = wipe σ vs ∧ tt σ2 H2 fun b H3 => if b = true then te σ2 H3 fun y H4 => ∃ acc, H4 D = some (.lst acc) ∧ acc.length < sizeLine ∧ Pv (i + 1) (upd H4 D (.lst (acc ++ [y]))) else Pv (i + 1) H3) (hd : ∀ H, Pv n H → Qd H) :
    ∃ W : Nat → Nat → Hp → Prop, (∃ m, W 0 m (upd H1 D (.lst []))) ∧ ∀ i m H, W i m H → (J.stop i H ∧ Qd H) ∨ (J.go i H ∧ ∃ Nx : Hp → Prop, (∀ H', Nx H' → ∃ m', m' < m ∧ W (i + 1) m' H') ∧ ∀ x H', J.yld i H x H' → g x (wipe σ vs) H' fun σ2 H2 => wipe σ2 vs = wipe σ vs ∧ tt σ2 H2 fun b H3 =>
      if b = true then te σ2 H3 fun y H4 => ∃ acc, H4 D = some (.lst acc) ∧ acc.length < sizeLine ∧ Nx (upd H4 D (.lst (acc ++ [y]))) else Nx H3) :=
  ⟨fun i m H => i + m = n ∧ Pv i H, ⟨n, Nat.zero_add n, h0⟩, fun i m H ⟨hm, p⟩ => by
    rcases m with _ | m
    · cases (show i = n from hm)
      exact .inl ⟨hst H p, hd H p⟩
    · exact .inr ⟨hgo i H (by omega) p, Pv (i + 1), fun H' p' => ⟨m, Nat.lt_succ_self m, by omega, p'⟩, fun x H' y => hs i x H H' (by omega) p y⟩⟩
theorem for_by {J : It} {n : Nat} {g : TG} {tb : TS} {D : Ends} {σ : L2.St} {H : Hp} (Pv : Nat → L2.St → Hp → Prop) (h0 : Pv 0 σ H) (hgo : ∀ i σ H, i < n → Pv i σ H → J.go i H) (hst : ∀ σ H, Pv n σ H → J.stop n H)
    (hs : ∀ i x σ H H', i < n → Pv i σ H → J.yld i H x H' → g x σ H' fun σ2 H2 => tb { D with nx := Pv (i + 1), ct := Pv (i + 1), bk := D.nx } σ2 H2) (hd : ∀ σ H, Pv n σ H → D.nx σ H) :
    ∃ W : Nat → Nat → L2.St → Hp → Prop, (∃ m, W 0 m σ H) ∧ ∀ i m σ H, W i m σ H → (J.stop i H ∧ D.nx σ H) ∨ (J.go i H ∧ ∃ N : L2.St → Hp → Prop, (∀ σ' H', N σ' H' → ∃ m', m' < m ∧ W (i + 1) m' σ' H') ∧ ∀ x H', J.yld i H x H' → g x σ H' fun σ2 H2 => tb { D with nx := N, ct := N, bk := D.nx } σ2 H2) :=
  ⟨fun i m σ H => i + m = n ∧ Pv i σ H, ⟨n, Nat.zero_add n, h0⟩, fun i m σ H ⟨hm, p⟩ => by
    rcases m with _ | m
    · cases (show i = n from hm)
      exact .inl ⟨hst σ H p, hd σ H p⟩
    · exact .inr ⟨hgo i σ H (by omega) p, Pv (i + 1), fun σ' H' p' => ⟨m, Nat.lt_succ_self m, by omega, p'⟩, fun x H' y => hs i x σ H H' (by omega) p y⟩⟩
theorem idL {K : PySem.W.Frag} {H : Hp} {a : Addr} {xs : List V} (h : SqL K H a xs) : SqL K H a xs := h
theorem idT {K : PySem.W.Frag} {H : Hp} {a : Addr} {xs : List V} (h : SqT K H a xs) : SqT K H a xs := h
/-! ### data -/
mutual
inductive Dm (M : Addr → Prop) (H : Hp) : V → PyData → Prop
  | non : Dm M H .non .none
  | bl (b : Bool) : Dm M H (.bl b) (.bool b)
  | int (i : Int) : Dm M H (.int i) (.int i)
  | str (x : Str) : Dm M H (.str x) (.str x)
  | lst {a : Addr} {xs : List V} {ds : List PyData} : ¬ M a → H a = some (.lst xs) → DmAll M H xs ds → Dm M H (.ref a) (.list ds)
  | tup {a : Addr} {xs : List V} {ds : List PyData} : ¬ M a → H a = some (.tup xs) → DmAll M H xs ds → Dm M H (.ref a) (.tuple ds)
inductive DmAll (M : Addr → Prop) (H : Hp) : List V → List PyData → Prop
  | nil : DmAll M H [] []
  | cons {v : V} {vs : List V} {d : PyData} {ds : List PyData} : Dm M H v d → DmAll M H vs ds → DmAll M H (v :: vs) (d :: ds)
end
section
variable {M M' : Addr → Prop} {H H' : Hp}
mutual
theorem Dm.mv (k : ∀ a o, H a = some o → ¬ M a → H' a = some o ∧ ¬ M' a) : ∀ (d : PyData) (v : V), Dm M H v d → Dm M' H' v d
  | .none, _, h => by cases h; exact .non
  | .bool _, _, h => by cases h; exact .bl _
  | .int _, _, h => by cases h; exact .int _
  | .str _, _, h => by cases h; exact .str _
  | .list ds, _, h => by
    cases h with
    | lst hm ha hs => exact .lst (k _ _ ha hm).2 (k _ _ ha hm).1 (DmAll.mv k ds _ hs)
  | .tuple ds, _, h => by
    cases h with
    | tup hm ha hs => exact .tup (k _ _ ha hm).2 (k _ _ ha hm).1 (DmAll.mv k ds _ hs)
  | .dict _, _, h => nomatch h
theorem DmAll.mv (k : ∀ a o, H a = some o → ¬ M a → H' a = some o ∧ ¬ M' a) : ∀ (ds : List PyData) (vs : List V), DmAll M H vs ds → DmAll M' H' vs ds
  | [], _, h => by cases h; exact .nil
  | d :: ds, _, h => by
    cases h with
    | cons h1 h2 => exact .cons (Dm.mv k d _ h1) (DmAll.mv k ds _ h2)
end
theorem Dm.kp {d : PyData} {v : V} (h : Dm M H v d) (k : Kp M H H') : Dm M H' v d := Dm.mv (fun a o e m => ⟨k a o e m, m⟩) d v h
theorem DmAll.kp {ds : List PyData} {vs : List V} (h : DmAll M H vs ds) (k : Kp M H H') : DmAll M H' vs ds := DmAll.mv (fun a o e m => ⟨k a o e m, m⟩) ds vs h
/-- other places may change from now on, where nothing of it is -/
theorem Dm.wd {d : PyData} {v : V} (h : Dm M H v d) (k : ∀ a o, H a = some o → ¬ M a → ¬ M' a) : Dm M' H v d := Dm.mv (fun a o e m => ⟨e, k a o e m⟩) d v h
variable {K : PySem.W.Frag}
mutual
theorem Dm.dp' : ∀ (d : PyData) (v : V), Dm M H v d → Dp K H v d
  | .none, _, h => by cases h; exact .non
  | .bool _, _, h => by cases h; exact .bl _
  | .int _, _, h => by cases h; exact .int _
  | .str _, _, h => by cases h; exact .str _
  | .list ds, _, h => by
    cases h with
    | lst hm ha hs => exact .lst (SqL.of ha) (DmAll.dp' ds _ hs)
  | .tuple ds, _, h => by
    cases h with
    | tup hm ha hs => exact .tup (SqT.of ha) (DmAll.dp' ds _ hs)
  | .dict _, _, h => nomatch h
theorem DmAll.dp' : ∀ (ds : List PyData) (vs : List V), DmAll M H vs ds → DpAll K H vs ds
  | [], _, h => by cases h; exact .nil
  | d :: ds, _, h => by
    cases h with
    | cons h1 h2 => exact .cons (Dm.dp' d _ h1) (DmAll.dp' ds _ h2)
end
theorem Dm.dp {d : PyData} {v : V} (h : Dm M H v d) : Dp K H v d := Dm.dp' d v h
theorem DmAll.len : ∀ {vs : List V} {ds : List PyData}, DmAll M H vs ds → vs.length = ds.length
  | [], _, h => by cases h; rfl
  | v :: vs, _, h => by
    cases h with
    | cons h1 h2 => rw [List.length_cons, List.length_cons, DmAll.len h2]
theorem DmAll.app : ∀ {vs ws : List V} {ds es : List PyData}, DmAll M H vs ds → DmAll M H ws es → DmAll M H (vs ++ ws) (ds ++ es)
  | [], _, _, _, h, h' => by cases h; exact h'
  | v :: vs, _, _, _, h, h' => by
    cases h with
    | cons h1 h2 => exact .cons h1 (DmAll.app h2 h')
end

/-! ### how long it is when shown -/
theorem listText_le : ∀ ts : List Str, (listText ts).length ≤ piled ts + 2
  | [] => Nat.le_of_eq rfl
  | t :: r => by
    have e : (listText (t :: r)).length = (textFrom 1 (("[" : Str) ++ ("" : Str) ++ t) r).length + ("]" : Str).length := strLen_append _ _
    rw [e, textFrom_length_pos r 1 _ (by decide), strLen_append, strLen_append, piled_cons]
    show 1 + 0 + t.length + piled r + 1 ≤ _
    omega
theorem tupleText_le (ts : List Str) : (tupleText ts).length ≤ piled ts + 3 := by
  have e : (tupleText ts).length = (("(" : Str) ++ Str.join ", " ts).length + (((if ts.length == 1 then ",)" else ")" : String) : Str)).length := strLen_append _ _
  rw [e, strLen_append]
  have l : ((((if ts.length == 1 then ",)" else ")" : String) : Str)).length) ≤ 2 := by split <;> decide
  have l1 : ("(" : Str).length = 1 := rfl
  cases ts with
  | nil => have : (Str.join ", " ([] : List Str)).length = 0 := rfl; omega
  | cons t r => have := join_length_add (t :: r) (by simp); omega
/-- data that can be shown, so deep and so long at most -/
structure Sb (d : PyData) (dp ln : Nat) : Prop where
  s : d.showable = true
  n : d.hasDict = false
  p : d.depth ≤ dp
  l : d.shown.length ≤ ln
theorem Sb.up {d : PyData} {p q l m : Nat} (h : Sb d p l) (hp : p ≤ q) (hl : l ≤ m) : Sb d q m := ⟨h.s, h.n, Nat.le_trans h.p hp, Nat.le_trans h.l hl⟩
theorem Sb.w {d : PyData} {p l : Nat} (h : Sb d p l) (hp : p ≤ 60) (hl : l ≤ 16777216) : Shw d := ⟨h.s, h.n, Nat.le_trans h.p hp, Nat.le_trans h.l (by rw [sizeLine_eq]; exact hl)⟩
theorem sb_all {p l : Nat} : ∀ {ds : List PyData}, (∀ d ∈ ds, Sb d p l) → PyData.showableAll ds = true ∧ PyData.hasDictAll ds = false ∧ PyData.depthAll ds ≤ p ∧ piled (PyData.shownAll ds) ≤ (l + 2) * ds.length
  | [], _ => ⟨rfl, rfl, Nat.zero_le _, Nat.zero_le _⟩
  | d :: ds, h => by
    obtain ⟨h1, h2, h3, h4⟩ := sb_all fun e he => h e (List.mem_cons_of_mem _ he)
    have hd := h d List.mem_cons_self
    have hp := hd.p
    have hl := hd.l
    refine ⟨?_, ?_, ?_, ?_⟩
    · simp [PyData.showableAll, hd.s, h1]
    · simp [PyData.hasDictAll, hd.n, h2]
    · simp only [PyData.depthAll]
      omega
    · simp only [PyData.shownAll, piled_cons, List.length_cons, Nat.mul_add]
      omega
theorem sb_list {ds : List PyData} {p l : Nat} (h : ∀ d ∈ ds, Sb d p l) : Sb (.list ds) (p + 1) ((l + 2) * ds.length + 2) := by
  obtain ⟨h1, h2, h3, h4⟩ := sb_all h
  refine ⟨by simpa [PyData.showable] using h1, by simpa [PyData.hasDict] using h2, by simp only [PyData.depth]; omega, ?_⟩
  simp only [PyData.shown]
  exact Nat.le_trans (listText_le _) (by omega)
theorem sb_tuple {ds : List PyData} {p l : Nat} (h : ∀ d ∈ ds, Sb d p l) : Sb (.tuple ds) (p + 1) ((l + 2) * ds.length + 3) := by
  obtain ⟨h1, h2, h3, h4⟩ := sb_all h
  refine ⟨by simpa [PyData.showable] using h1, by simpa [PyData.hasDict] using h2, by simp only [PyData.depth]; omega, ?_⟩
  simp only [PyData.shown]
  exact Nat.le_trans (tupleText_le _) (by omega)
theorem sb_none : Sb .none 1 5 := ⟨rfl, rfl, by decide, by decide⟩
theorem sb_bool (b : Bool) : Sb (.bool b) 1 5 := by cases b <;> exact ⟨rfl, rfl, by decide, by decide⟩

/-- what is tracked: data of which nothing is so is new -/
def New (H : Hp) : Addr → Prop := fun a => H a ≠ none
theorem new_of {H : Hp} {a : Addr} (h : H a = none) : ¬ New H a := fun z => z h
theorem Kp.new {H H1 : Hp} {b : Addr} (k : Kp (· = b) H H1) (hb : New H1 b) {a : Addr} (h : ¬ New H1 a) : ¬ New H a := fun z => by
  by_cases e : a = b
  · rw [e] at h
    exact h hb
  · cases q : H a with
    | none => exact z q
    | some o => exact h (by rw [New, k a o q e]; exact fun y => nomatch y)
theorem Bx.new {H : Hp} {b : Addr} (h : ∃ w s c : Int, H b = some (.lst [.int w, .int s, .int c])) : New H b := by
  obtain ⟨_, _, _, e⟩ := h
  rw [New, e]
  exact fun y => nomatch y
/-! ### the source of draws: a list of three ints at b -/
def Bx (H : Hp) (b : Addr) : Prop := ∃ w s c : Int, H b = some (.lst [.int w, .int s, .int c])
/-- the script, which no one writes: a list of xs at a -/
def Scr (K : PySem.W.Frag) (H : Hp) (a : Addr) (xs : List V) : Prop := (∃ o, H a = some (.frz o (.lst xs))) ∨ (∀ H', SqL K H' a xs)
theorem Scr.sq {K : PySem.W.Frag} {H : Hp} {a : Addr} {xs : List V} (h : Scr K H a xs) : SqL K H a xs := by
  rcases h with ⟨o, h⟩ | h
  · exact .inl (.inr ⟨o, h⟩)
  · exact h H
theorem Scr.kp {K : PySem.W.Frag} {H H' : Hp} {a b : Addr} {xs : List V} (h : Scr K H a xs) (hb : Bx H b) (k : Kp (· = b) H H') : Scr K H' a xs := by
  rcases h with ⟨o, h⟩ | h
  · refine .inl ⟨o, k _ _ h fun e => ?_⟩
    obtain ⟨_, _, _, z⟩ := hb
    rw [e, z] at h
    cases h
  · exact .inr h
theorem Scr.same {K : PySem.W.Frag} {H H' : Hp} {a : Addr} {xs : List V} (h : Scr K H a xs) (k : Same H H') : Scr K H' a xs := by
  rcases h with ⟨o, h⟩ | h
  · exact .inl ⟨o, k _ _ h⟩
  · exact .inr h
theorem scr_of {K : PySem.W.Frag} {H : Hp} {a : Addr} {xs : List V} (ho : Only H) (h : SqL K H a xs) : Scr K H a xs := by
  rcases h with (h | ⟨o, h⟩) | h
  · rcases ho a with e | ⟨o, ys, e⟩
    · rw [e] at h; cases h
    · rw [e] at h; cases h
  · exact .inl ⟨o, h⟩
  · exact .inr fun H' => .inr h
theorem Bx.same {H H' : Hp} {b : Addr} (h : Bx H b) (k : Same H H') : Bx H' b := let ⟨w, s, c, e⟩ := h; ⟨w, s, c, k _ _ e⟩
/-- a law's promise: True, whatever the script -/
def spLaw (K : PySem.W.Frag) : Sp := fun vs H Q _ => ∃ (a : Addr) (ns : List Int), vs = [.ref a] ∧ Scr K H a (ns.map V.int) ∧ ns.length ≤ 63 ∧ ∀ H', Q (.bl true) H'
theorem sp_start (K : PySem.W.Frag) (H : Hp) (a : Addr) (ns : List Int) (hl : ns.length ≤ 63) (ho : Only H) (hs : SqL K H a (ns.map V.int)) : spLaw K [.ref a] H (fun v _ => v = .bl true) fun _ _ _ => False := ⟨a, ns, rfl, scr_of ho hs, hl, fun _ => rfl⟩
/-- a draw below m -/
def spTake : Sp := fun vs H Q _ => ∃ (b : Addr) (m : Int), vs = [.ref b, .int m] ∧ 0 < m ∧ m < 1073741824 ∧ Bx H b ∧ ∀ (r : Int) (H' : Hp), 0 ≤ r → r < m → Bx H' b → Kp (· = b) H H' → Q (.int r) H'
/-- how long any value is when shown -/
def anyLn : Nat → Nat
  | 0 => 20
  | k + 1 => (anyLn k + 2) * 2 + 3
theorem anyLn_ge : ∀ k : Nat, 20 ≤ anyLn k
  | 0 => Nat.le_refl _
  | k + 1 => by have := anyLn_ge k; unfold anyLn; omega
/-- any value, nested so deep at most: all of it is new -/
def spAny (k : Nat) : Sp := fun vs H Q _ => ∃ (b : Addr) (n : Int), vs = [.ref b, .int n] ∧ n ≤ k ∧ Bx H b ∧ ∀ (v : V) (d : PyData) (H' : Hp), Dm (New H) H' v d → Sb d (k + 2) (anyLn k) → Bx H' b → Kp (· = b) H H' → Q v H'
def spAnyR : Nat → Sp
  | 0 => fun _ _ _ _ => False
  | k + 1 => spAny k
/-- one of some things, a list of them at a -/
def spPick (K : PySem.W.Frag) : Sp := fun vs H Q _ => ∃ (b a : Addr) (xs : List V), vs = [.ref b, .ref a] ∧ SqL K H a xs ∧ a ≠ b ∧ 0 < xs.length ∧ xs.length < 1000000 ∧ Bx H b ∧ ∀ (v : V) (H' : Hp), v ∈ xs → Bx H' b → Kp (· = b) H H' → Q v H'
/-- cell k's source -/
def spBox (K : PySem.W.Frag) : Sp := fun vs H Q _ => ∃ (a : Addr) (ns : List Int) (k : Int), vs = [.ref a, .int k] ∧ SqL K H a (ns.map V.int) ∧ ns.length ≤ 63 ∧ 0 ≤ k ∧ k < 1000 ∧ ∀ (b : Addr) (H' : Hp), H b = none → Bx H' b → Same H H' → Q (.ref b) H'
end Rw
set_option Elab.async false
set_option linter.all false
set_option maxRecDepth 100000
set_option maxHeartbeats 6400000
/-! own layer: set(l) of a list or a tuple of ints, as a value -/
namespace Rw
open PySem PySem.Spec PySem.Calls PyProof.Rows L2
section
variable {P : Program} {w : World} {A : Around} {E : Value → Shared → Prop} {s : Shared}
abbrev newSet (w : World) : Obj := { cls := .type "set", dict := none, data := .set #[] 0 (.fresh 0 0 (!w.params.followText "set-order")) }
/-- S.__init__(l) -/
theorem init_lst {l S : Addr} {items : Array Value} (ns : List Int) {R : Result → Shared → Prop} (hh : A.handled = none) (hl : s.heap.IsList l items) (hit : IntsAre items.toList ns) (hb : ns.length + 1 < scanBound) (hS : s.heap.get? S = some (newSet w)) (hne : S ≠ l)
    (hq : ∀ (h' : Heap) (tk c : Nat), SetR w h' S (fun j => decide (j ∈ ns)) c → c ≤ ns.length → (∀ b o, b ≠ S → s.heap.get? b = some o → h'.get? b = some o) → R (.ok (.ret .none)) { s with heap := h', toks := tk }) :
    codeAny (model P w) A (.call (.builtin "set.__init__") ⟨[.ref S, .ref l], []⟩) R s := by
  have hisz : items.size = ns.length := by rw [← Array.length_toList, IntsAre.length hit]
  have hT : s.TypeIs (.ref S) "set" := ⟨_, hS, rfl⟩
  refine codeAny_call_builtin F.called_set.init.plain F.entry_set_init (check_set_init_1 hT ?_)
  obtain ⟨ol, hol, hcl, nl, hdl⟩ := id hl
  obtain ⟨ocls, odict, odata, oslots⟩ := ol
  cases hcl
  cases hdl
  have sub1 := F.sub_list_set
  have sub2 := F.sub_list_frozenset
  have nodict : (Value.type "list" == Value.type "dict") = false := by decide
  unfold Builtin.«set.__init__» noKeywords Builtin.Frozenset.updateFrom
  generalize hPI : pyIter = PI
  wp_walk
  subst hPI
  have hI : S < s.heap.objs.size := Heap.lt_size hS
  have hlI : l < s.heap.objs.size := Heap.lt_size hol
  refine wpAny_pyIter_list hl ?_
  refine wpAny_bind (wpAny_runValue ?_)
  have away : S ∉ [s.heap.objs.size, l] := fun z => by
    rcases List.mem_cons.mp z with e | e
    · exact Nat.ne_of_lt hI e
    · exact hne (List.mem_singleton.mp e)
  have each : ∀ (i : Nat) (v : Value), items[i]? = some v → ∃ k t, ns[i]? = some k ∧ v = .int k t := fun i v hv => by
    have hi : i < ns.length := hisz ▸ (Array.getElem?_eq_some_iff.mp hv).1
    obtain ⟨t, e⟩ := IntsAre.int_at hit i v (by rw [Array.getElem?_toList]; exact hv)
    rw [List.getD_eq_getElem?_getD, List.getElem?_eq_getElem hi] at e
    exact ⟨_, t, List.getElem?_eq_getElem hi, e⟩
  have quiet : A.in1.in1.handled = none := by simp [hh]
  refine set_update_ints ((Walks.list (by simpa using quiet) s.heap.objs.size l (Nat.ne_of_lt hlI) items).toS) S away ns hisz hb each (items.size - 0) 0 _ (by omega) (Nat.zero_le _) ⟨⟨_, Heap.get?_push_size _ rfl, rfl, rfl⟩, hl.push _⟩ ⟨0, Nat.le_refl 0, setR_new_at (Heap.get?_push_of_some _ hS)⟩ fun s' c hm hc R1 => ?_
  obtain ⟨h', g2, d', tk', os'⟩ := s'
  cases (show g2 = s.gens from hm.gens)
  cases (show d' = s.drawn from hm.drawn)
  cases (show os' = s.os from hm.os)
  refine wpAny_pure ?_
  show wpAny _ _ (ret Value.none) _ _ _
  refine wpAny_pure (hq h' tk' c R1 (hisz ▸ hc) fun b o hbS e => ?_)
  refine hm.heap b o (fun z => ?_) (Heap.get?_push_of_some _ e)
  rcases List.mem_cons.mp z with e2 | e2
  · exact hbS e2
  · exact Nat.ne_of_lt (Heap.lt_size e) (List.mem_singleton.mp e2)
/-- set(l), l a list of ints -/
theorem set_lst {l : Addr} {items : Array Value} (ns : List Int) {Q : Value → Shared → Prop} (hh : A.handled = none) (hl : s.heap.IsList l items) (hit : IntsAre items.toList ns) (hb : ns.length + 1 < scanBound)
    (h : ∀ (h' : Heap) (tk c : Nat), SetR w h' s.heap.objs.size (fun j => decide (j ∈ ns)) c → c ≤ ns.length → (∀ b o, s.heap.get? b = some o → h'.get? b = some o) → Q (.ref s.heap.objs.size) { s with heap := h', toks := tk }) :
    wpAny (model P w) A (call (.type "set") [.ref l]) Q E s := by
  have C := F.called_set
  obtain ⟨c0, tl, hmro⟩ := C.mro
  have f1 := C.made
  have f2 := C.sub
  have f3 := C.notType
  have f4 := C.canCreate
  have f5 := F.typeCall_set_1 (.ref l)
  refine wpAny_call (codeAny_of_tree (wpAny_pure ⟨Code.quiet_builtin _ (by decide +kernel), codeAny_builtin F.entry_type_call ?_⟩))
  rw [Around.under_plain (weight_type_call_type "set" [.ref l] []) rfl]
  repeat (any_goals (first | assumption | wp_step))
  refine codeAny_mono (code_set_led1 (.ref l) (E := E) (Q₁ := fun v s1 => v = .ref s.heap.objs.size ∧ s1 = { s with heap := s.heap.push (newSet w) }) ⟨rfl, rfl⟩) ?_
  rintro (e | fl) s1 z
  · exact z
  · cases fl <;> first | exact z.elim | skip
    obtain ⟨rfl, rfl⟩ := z
    have g1 : (s.heap.push (newSet w)).get? s.heap.objs.size = some (newSet w) := Heap.get?_push_size _ rfl
    have g2 : Shared.TypeIs { s with heap := s.heap.push (newSet w) } (.ref s.heap.objs.size) "set" := ⟨_, g1, rfl⟩
    have g3 := C.init.lookup
    have g4 := C.init.bind (.ref s.heap.objs.size)
    repeat (any_goals (first | assumption | wp_step))
    refine init_lst (s := { s with heap := s.heap.push (newSet w) }) ns (by simp [hh]) (hl.push _) hit hb g1 ?_ fun h' tk c R1 hc k => ?_
    · obtain ⟨o, ho, _⟩ := hl
      exact (Nat.ne_of_lt (Heap.lt_size ho)).symm
    · show wpAny _ _ (pure _) _ _ _
      repeat (any_goals (first | assumption | wp_step))
      exact h h' tk c R1 hc fun b o e => k b o (Nat.ne_of_lt (Heap.lt_size e)) (Heap.get?_push_of_some _ e)
/-- set(l) of a list or a tuple of ints: a new set of them -/
def rSetI (K : PySem.W.Frag) (w : World) : List V → Hp → VK → Prop := fun xs H Q => ∃ (p : Addr) (ns : List Int), xs = [.ref p] ∧ (SqL K H p (ns.map V.int) ∨ SqT K H p (ns.map V.int)) ∧ ns.length ≤ 1000 ∧
  ∀ (a : Addr) (n : Nat), H a = none → n ≤ ns.length → Q (.ref a) (upd H a (SetO w a (fun j => decide (j ∈ ns)) n))
theorem call_setI {X : Cx} (hc : X.calm = true) : CallR X (.type "set") (rSetI X.K X.w) := by
  intro pins s σ H vs us Q I r h
  obtain ⟨p, ns, rfl, hs, hn, q⟩ := h
  rw [Vals.ref1 r]
  have hb : ns.length + 1 < scanBound := by unfold scanBound; omega
  have fin : ∀ (h' : Heap) (tk c : Nat), SetR X.w h' s.heap.objs.size (fun j => decide (j ∈ ns)) c → c ≤ ns.length → (∀ b o, s.heap.get? b = some o → h'.get? b = some o) → EP X pins σ Q (.ref s.heap.objs.size) { s with heap := h', toks := tk } :=
    fun h' tk c R1 hc k => ⟨.ref _, upd H s.heap.objs.size (SetO X.w s.heap.objs.size (fun j => decide (j ∈ ns)) c), I.laid (t' := tk) k (Nat.le_refl _) (setO_new R1), rfl, q _ c (I.hok.fresh (Nat.le_refl _)) hc⟩
  rcases hs with hs | hs
  · obtain ⟨its, rv, pl, _⟩ := I.list hs
    exact set_lst ns (I.ok.hd hc) pl.isList (ints_of_vals rv) hb fin
  · obtain ⟨its, rv, pt, _⟩ := I.tuple hs
    exact call_set_tupI ns (I.ok.hd hc) (show s.heap.IsTuple p its.toArray from pt) (ints_of_vals rv) hb fin
end
end Rw
set_option Elab.async false
set_option linter.all false
set_option maxRecDepth 100000
set_option maxHeartbeats 6400000
/-! own layer: `a, *b = t`, `xs[::-1]`, sorted of data of any length -/
namespace Rw
open PySem PySem.Spec PySem.Calls PyProof.Rows L2
section
variable {prog : Program} {w : World} {A : Around} {E : Value → Shared → Prop} {s : Shared}
theorem walks_tail {I : Addr} {fp wr : List Addr} {G : Array GenState → Array GenState → Prop} {n : Nat} {P : Nat → Value → Prop} {St : Nat → Shared → Prop} (W : WalksS prog w A I fp wr G (n + 1) P St) :
    WalksS prog w A I fp wr G n (fun i => P (i + 1)) (fun i => St (i + 1)) where
  sub := W.sub
  grefl := W.grefl
  gtrans := W.gtrans
  frame := fun i => W.frame (i + 1)
  item := fun i s Q E hi => W.item (i + 1) s Q E (by omega)
  done := W.done
  self := fun i => W.self (i + 1)
theorem unpack_star {t : Addr} {items : Array Value} {Q : List Value → Shared → Prop} {x : Value} {r : List Value} (hh : A.handled = none) (ht : IsTup s.heap t items) (hx : items.toList = x :: r) (hz : items.size ≤ sizeLine)
    (hQ : ∀ (h1 : Heap) (tk : Nat), (∀ b o, s.heap.get? b = some o → h1.get? b = some o) → Q [x, .ref h1.objs.size] { s with heap := h1.push { cls := .type "list", data := .seq r.toArray }, toks := tk }) :
    wpAny (model prog w) A (unpackItems (.ref t) 2 (some 1)) Q E s := by
  have hlt : t ≠ s.heap.objs.size := by obtain ⟨o, ho, _⟩ := ht; exact Nat.ne_of_lt (Heap.lt_size ho)
  have hn : items.size = r.length + 1 := by rw [← Array.length_toList, hx]; rfl
  unfold unpackItems
  refine wpAny_bind ?_
  unfold notIterableAtAll
  refine wpAny_bind (wpAny_specialOf ht.typeIs slot_tuple_iter.lookup ?_)
  refine wpAny_pure ?_
  simp only [Bool.false_eq_true, if_false]
  refine wpAny_bind (wpAny_holding (iter_tuple ht ?_))
  refine wpAny_bind (wpAny_holding (draw_tuple hlt 1 0 _ _ ⟨_, Heap.get?_push_size _ rfl, rfl, rfl⟩ (ht.push _) (by omega) fun h₁ hit₁ hs₁ => ?_))
  have ht₁ : IsTup h₁ t items := (ht.push _).extBut hs₁.extBut hlt
  have k1 : ∀ b o, s.heap.get? b = some o → h₁.get? b = some o := fun b o e => hs₁.extBut b o (Nat.ne_of_lt (Heap.lt_size e)) (Heap.get?_push_of_some _ e)
  have e1 : List.take 1 (List.drop 0 items.toList) = [x] := by rw [hx]; rfl
  rw [e1]
  rw [if_neg (by simp)]
  refine wpAny_bind (wpAny_holding ?_)
  have quiet : A.in1.in1.handled = none := by simp [hh]
  have W := Walks.tuple (prog := prog) (w := w) (A := A.in1) (by simp [hh]) s.heap.objs.size t hlt items
  rw [hn] at W
  have hI : s.heap.objs.size < h₁.objs.size := by
    obtain ⟨o, ho, _⟩ := hit₁
    exact Heap.lt_size ho
  have hT : t < h₁.objs.size := ht₁.lt
  refine wpAny_collect_iter (T := "tuple_iterator") (.inr (.inr (.inr rfl))) (walks_tail W.toS) (fun i s' st => ?_) ⟨hit₁, ht₁⟩ (fun b hb => ?_) (by simp) (fun s' acc hm hacc => ?_) (by omega)
  · obtain ⟨⟨o, ho, hc, _⟩, _⟩ := st
    exact ⟨o, ho, hc⟩
  · simp only [List.mem_cons, List.not_mem_nil, or_false] at hb
    rcases hb with rfl | rfl <;> assumption
  have ea : acc.toList = r := by
    apply List.ext_getElem?
    intro j
    rw [Array.getElem?_toList]
    by_cases hj : j < r.length
    · have hja : j < acc.size := by rw [hacc.1]; exact hj
      have q := hacc.2 j acc[j] (by simp [hja])
      have q2 : items[j + 1]? = some acc[j] := q
      rw [Array.getElem?_eq_getElem hja, ← q2, ← Array.getElem?_toList, hx]
      rfl
    · rw [List.getElem?_eq_none (by omega), Array.getElem?_eq_none (by rw [hacc.1]; omega)]
  rw [ea]
  obtain ⟨h', g2, d', tk', os'⟩ := s'
  cases (show g2 = s.gens from hm.gens)
  cases (show d' = s.drawn from hm.drawn)
  cases (show os' = s.os from hm.os)
  have k2 : ∀ b o, s.heap.get? b = some o → h'.get? b = some o := fun b o e => hm.heap b o (fun z => Nat.ne_of_lt (Heap.lt_size e) (List.mem_singleton.mp z)) (k1 b o e)
  simp only [show 2 - 1 - 1 = 0 from rfl, Nat.not_lt_zero, if_false, Nat.sub_zero, List.take_length, List.drop_length, List.append_nil]
  show wpAny _ _ (newList r >>= _) _ _ _
  refine wpAny_bind (wpAny_newObj_type ?_ (show (r.toArray).size ≤ sizeLine by rw [List.size_toArray]; omega))
  exact wpAny_pure (hQ h' tk' k2)
end
/-- a, *b = t: t a tuple with an item at least -/
def gStar (K : PySem.W.Frag) (g1 g2 : TG) : TG := fun v σ H Q => ∃ a x r, v = .ref a ∧ SqT K H a (x :: r) ∧ ∀ p, H p = none → g1 x σ (upd H p (.lst r)) fun σ' H' => g2 (.ref p) σ' H' Q
section
variable {X : Cx} {pos p2 : Pos} {k : Nat}
theorem pg_star {e1 e2 : Expr} {g1 g2 : TG} (hc : X.calm = true) (h1 : PG X e1 g1) (h2 : PG X e2 g2)
    (ha : assignEach [e1, .Starred e2 p2] X.env = [(false, assign e1 X.env), (true, assign e2 X.env)] := by rfl) : PG X (.Tuple [e1, .Starred e2 p2] k pos) (gStar X.K g1 g2) := by
  refine ⟨fun pins s σ H v u Q I r hw => ?_⟩
  obtain ⟨a, x, xs, e1, hq, hw⟩ := hw
  subst e1
  cases r
  obtain ⟨its, rv, ht, hz⟩ := I.tuple hq
  cases rv with
  | cons rx rr =>
    rw [assign_Tuple]
    refine wpAny_bind (wpAny_standAt ?_)
    unfold unpack
    rw [ha]
    refine wpAny_bind (wpAny_holding (unpack_star (I.ok.hd hc) ht rfl (by simpa [rr.length] using hz) fun h' tk kp => ?_))
    have I1 : Inv X pins σ H { s with heap := h', toks := tk } := I.kept (t' := tk) kp
    have I2 := I1.laid (t' := tk) (o := .lst xs) (fun b ob q => Heap.get?_push_of_some { cls := .type "list", data := .seq (List.toArray _) } q) (Nat.le_refl _) ⟨(by simp at hz; omega), _, 0, rr, Heap.get?_push_size _ rfl⟩
    have fr : H h'.objs.size = none := I1.hok.fresh (Nat.le_refl _)
    show wpAny _ _ (assignInOrder [assign _ X.env, assign _ X.env] _) _ _ _
    refine assignInOrder_cons (thn (h1.run pins _ σ _ x _ _ I2 rx (hw _ fr)) fun _ s1 ⟨σ1, H1, I3, q1⟩ => ?_)
    refine assignInOrder_cons (thn (h2.run pins s1 σ1 H1 (.ref _) (.ref _) _ I3 rfl q1) fun _ s2 ⟨σ2, H2, I4, q2⟩ => ?_)
    exact assignInOrder_nil ⟨σ2, H2, I4, q2⟩
/-- xs[::-1] of a list -/
def tRev (K : PySem.W.Frag) (te ts : TE) : TE := fun σ H Q => te σ H fun x H1 => ts σ H1 fun k H2 => ∃ a xs, k = .int (-1) ∧ x = .ref a ∧ SqL K H2 a xs ∧ ∀ p, H2 p = none → Q (.ref p) (upd H2 p (.lst xs.reverse))
theorem Vals.reverse : ∀ {xs : List V} {us : List Value}, Vals xs us → Vals xs.reverse us.reverse
  | _, _, .nil => .nil
  | _, _, .cons r t => by
    rw [List.reverse_cons, List.reverse_cons]
    exact (Vals.reverse t).append (.cons r .nil)
theorem pe_rev {e st : Expr} {te ts : TE} (he : PE X e te) (hs : PE X st ts) : PE X (.Subscript e (.Slice none none (some st) p2) pos) (tRev X.K te ts) := by
  refine ⟨fun pins s σ H Q I h => ?_⟩
  refine Subscript_ (thn (he.run pins s σ H _ I h) fun v s1 ⟨x, H1, I1, r1, q1⟩ => ?_)
  refine wpAny_Slice ?_
  rw [evalPart_none]
  refine wpAny_pure ?_
  refine wpAny_pure ?_
  rw [evalPart_some]
  refine thn (hs.run pins s1 σ H1 _ I1 q1) fun vk s3 ⟨kk, H3, I3, rk, q3⟩ => ?_
  obtain ⟨a, xs, rfl, rfl, hx, q⟩ := q3
  obtain ⟨tk, rfl⟩ := rk
  cases r1
  have I4 : Inv X pins σ H3 { s3 with heap := s3.heap.push { cls := .type "slice", data := .fields #[.none, .none, .int (-1) tk] } } := I3.kept (t' := s3.toks) fun b ob q => Heap.get?_push_of_some _ q
  obtain ⟨its, r, ht, hz⟩ := I4.list hx
  have hlen := r.length
  refine tail_any (ops := [.ref a, .ref s3.heap.objs.size]) ht.isList.typeIs slot_list_getitem.lookup ?_ (by with_unfolding_all rfl)
  refine wpAny_getItem_list_slice ht.isList (Heap.IsSliceOf.new ..) .none .none (.int _ _) (by simp) ?_ (by rw [List.size_toArray]; omega)
  rw [show slicePick its.toArray none none (some (-1)) = its.reverse.toArray from by rw [PySem.W.krv_pick]]
  refine ⟨.ref _, _, I4.laid (t' := s3.toks) (o := .lst xs.reverse) (fun b ob q => Heap.get?_push_of_some _ q) (Nat.le_refl _) ?_, rfl, q _ (I4.hok.fresh (Nat.le_refl _))⟩
  exact ⟨by rw [List.length_reverse]; exact hz, _, 0, Vals.reverse r, Heap.get?_push_size _ rfl⟩
end
/-! ### sorted of data -/
/-- sorted(xs): each item reads as the datum beside it -/
def rSortD (K : PySem.W.Frag) : List V → Hp → VK → Prop := fun vs H Q => ∃ (a : Addr) (zs : List (V × PyData)), vs = [.ref a] ∧ SqL K H a (zs.map (·.1)) ∧ (∀ z ∈ zs, Dp K H z.1 z.2 ∧ z.2.depth ≤ 60) ∧ PySem.W.AllAlike (zs.map (·.2)) ∧ PySem.W.Sortable (zs.map (·.2)) ∧
  ∀ p, H p = none → Q (.ref p) (upd H p (.lst ((zs.mergeSort (PySem.W.dataLe false (·.2))).map (·.1))))
theorem each_of {R : Value → (V × PyData) → Prop} : ∀ {zs : List (V × PyData)} {us : List Value}, Vals (zs.map (·.1)) us → (∀ z ∈ zs, ∀ u, RelV z.1 u → R u z) → PySem.W.EachIs R us zs
  | [], _, h, _ => by cases h; exact .nil
  | z :: zs, _, h, k => by
    cases h with
    | cons r t => exact .cons (k z List.mem_cons_self _ r) (each_of t fun y hy => k y (List.mem_cons_of_mem _ hy))
theorem vals_of : ∀ {zs : List (V × PyData)} {us : List Value}, PySem.W.EachIs (fun u (z : V × PyData) => RelV z.1 u) us zs → Vals (zs.map (·.1)) us
  | _, _, .nil => .nil
  | _, _, .cons h t => .cons h (vals_of t)
theorem cr_sortD {X : Cx} (hu : X.A.units + 64 < cLine) : CallR X (.builtin "sorted") (rSortD X.K) := by
  intro pins s σ H vs us Q I r h
  obtain ⟨a, zs, rfl, hs, hd, h1, h2, q⟩ := h
  obtain ⟨its, rv, hl, hz⟩ := I.list hs
  rw [Vals.ref1 r]
  rw [List.length_map] at hz
  have e1 : PySem.W.EachIs (fun u (z : V × PyData) => RelV z.1 u) its zs := each_of rv fun z _ u h => h
  have e2 : PySem.W.EachIs (fun u (z : V × PyData) => ∃ as, Reads s.heap u z.2 as) its zs := each_of rv fun z hz u h => Dp.reads I z.2 z.1 u (hd z hz).1 h
  refine PySem.W.sorted_data (enc := (·.2)) hl.isList e1 e2 h1 h2 hz (fun b hb => by have := (hd b hb).2; omega) fun out ho eo => ?_
  obtain ⟨ep, he'⟩ := PyProof.Rows.sortedAll_at s.heap its out.toArray
  refine ⟨.ref _, upd H (s.heap.objs.size + 1) (.lst ((zs.mergeSort (PySem.W.dataLe false (·.2))).map (·.1))), I.laid (t' := s.toks) (fun _ _ => PyProof.Rows.sortedAll_old) (Nat.le_succ _) ⟨?_, out, ep, vals_of eo, he'⟩, rfl, q _ (I.hok.fresh (Nat.le_succ _))⟩
  rw [List.length_map, List.length_mergeSort]
  exact hz
end Rw
set_option Elab.async false
set_option linter.all false
set_option maxRecDepth 100000
set_option maxHeartbeats 6400000
/-! own layer: set(l) of a list of tuples whose items are ints and texts -/
namespace Rw
open PySem PySem.Spec PySem.Calls PyProof.Rows L2
abbrev Pr := Addr × List Key
section
variable {P : Program} {w : World}
abbrev hsh (P : Program) (w : World) (p : Pr) : Int := tupleKeyHash (mixKind P w) p.2
abbrev Tk (P : Program) (w : World) (h : Heap) (p : Pr) : Prop := IsTupleKey (mixKind P w) h p.2 p.1
abbrev rw1 (P : Program) (w : World) (p : Pr) : Int × Value := (hsh P w p, .ref p.1)
/-- an int or a text -/
def Fl (v : Value) : Prop := (∃ i t, v = .int i t) ∨ ∃ x t, v = .str x t
theorem flat_items {c : List Key} {vs : List Value} (h : ItemsAre (mixKind P w) c vs) : ∀ v ∈ vs, Fl v := by
  induction h with
  | nil => exact fun v hv => nomatch hv
  | cons hk _ ih =>
    rintro v (_ | ⟨_, hv⟩)
    · rcases keyIs_shape hk with ⟨i, t, _, e⟩ | ⟨x, t, _, e⟩
      · exact .inl ⟨i, t, e⟩
      · exact .inr ⟨x, t, e⟩
    · exact ih v hv
variable {A : Around} {E : Value → Shared → Prop} {s : Shared}
theorem noclass_flat {v : Value} (h : Fl v) (n : Nat) : ofAClassStatement n v = pure false := by
  rcases h with ⟨i, t, rfl⟩ | ⟨x, t, rfl⟩ <;> cases n <;> rfl
theorem byval_flat {v : Value} (h : Fl v) (n : Nat) : ∃ b, hashByValue n v = pure b := by
  rcases h with ⟨i, t, rfl⟩ | ⟨x, t, rfl⟩ <;> cases n <;> exact ⟨_, rfl⟩
theorem noclass_tk {p : Pr} {Q : Bool → Shared → Prop} (h : Tk P w s.heap p) (q : Q false s) : wpAny (model P w) A (ofAClassStatement 8 (.ref p.1)) Q E s := by
  have ty := IsTupleKey.typeIs h
  obtain ⟨ob, its, m, g1, _, g2, g3⟩ := h
  have fl := flat_items g3
  unfold ofAClassStatement
  refine wpAny_bind (wpAny_typeOf ty ?_)
  dsimp only
  simp only [show (("tuple" : String) == "tuple") = true by decide, if_true, Bool.not_true, Bool.false_eq_true, if_false]
  try refine wpAny_bind (wpAny_pure ?_)
  try simp only [Bool.not_true, Bool.false_eq_true, if_false]
  show wpAny _ _ (seqItems? (.ref p.1) >>= _) _ _ s
  refine wpAny_bind (wpAny_seqItems g1 g2 ?_)
  dsimp only
  refine wpAny_bind ?_
  show wpAny _ _ (forIn its _ _) _ _ s
  rw [← Array.forIn_toList]
  refine wpAny_forIn_list _ (fun left r z => (r.1 = none ∧ z = s) ∧ ∀ v ∈ left, Fl v) _ (fun v left r z hz => ?_) (fun r z hz => ?_) _ _ ⟨⟨rfl, rfl⟩, fl⟩
  · obtain ⟨⟨hr, rfl⟩, al⟩ := hz
    rw [noclass_flat (al v List.mem_cons_self)]
    refine wpAny_bind (wpAny_pure ?_)
    simp only [Bool.false_eq_true, if_false]
    exact wpAny_pure ⟨⟨rfl, rfl⟩, fun u hu => al u (List.mem_cons_of_mem _ hu)⟩
  · obtain ⟨r1, r2⟩ := r
    obtain ⟨⟨hr, rfl⟩, _⟩ := hz
    cases (show r1 = none from hr)
    exact wpAny_pure q
theorem byval_tk {p : Pr} {Q : Bool → Shared → Prop} (h : Tk P w s.heap p) (q : ∀ b, Q b s) : wpAny (model P w) A (hashByValue 8 (.ref p.1)) Q E s := by
  have ty := IsTupleKey.typeIs h
  obtain ⟨ob, its, m, g1, _, g2, g3⟩ := h
  have fl := flat_items g3
  unfold hashByValue
  refine wpAny_bind (wpAny_specialOf ty F.slot_tuple_hash.lookup ?_)
  show wpAny _ _ (seqItems? (.ref p.1) >>= _) _ _ s
  refine wpAny_bind (wpAny_seqItems g1 g2 ?_)
  refine wpAny_bind ?_
  show wpAny _ _ (forIn its _ _) _ _ s
  rw [← Array.forIn_toList]
  refine wpAny_forIn_list _ (fun left r z => z = s ∧ ∀ v ∈ left, Fl v) _ (fun v left r z hz => ?_) (fun r z hz => ?_) _ _ ⟨rfl, fl⟩
  · obtain ⟨rfl, al⟩ := hz
    obtain ⟨b, e⟩ := byval_flat (al v List.mem_cons_self) 7
    rw [e]
    refine wpAny_bind (wpAny_pure ?_)
    cases b with
    | true =>
      simp only [Bool.not_true, Bool.false_eq_true, if_false]
      exact wpAny_pure ⟨rfl, fun u hu => al u (List.mem_cons_of_mem _ hu)⟩
    | false =>
      simp only [Bool.not_false, if_true]
      exact wpAny_pure (wpAny_pure (q false))
  · obtain ⟨r1, r2⟩ := r
    obtain ⟨rfl, _⟩ := hz
    cases r1 with
    | none => exact wpAny_pure (q true)
    | some b => exact wpAny_pure (q b)
/-- whether the search would show something: no -/
theorem unseen {p : Pr} {ys : List Value} {Q : Bool → Shared → Prop} (h : Tk P w s.heap p) (hy : ∀ y ∈ ys, ∃ r : Pr, y = .ref r.1 ∧ Tk P w s.heap r) (q : Q false s) : wpAny (model P w) A (searchCouldBeSeen (.ref p.1) ys) Q E s := by
  unfold searchCouldBeSeen
  refine wpAny_bind ?_
  refine wpAny_forIn_list _ (fun left r z => (r.1 = none ∧ z = s) ∧ ∀ y ∈ left, ∃ r : Pr, y = .ref r.1 ∧ Tk P w s.heap r) _ (fun v left r z hz => ?_) (fun r z hz => ?_) _ _ ⟨⟨rfl, rfl⟩, hy⟩
  · obtain ⟨⟨hr, rfl⟩, al⟩ := hz
    have al2 := fun u hu => al u (List.mem_cons_of_mem _ hu)
    obtain ⟨y, rfl, ty⟩ := al v List.mem_cons_self
    dsimp only
    by_cases c : (p.1 == y.1 || (carriedByValue (.ref p.1) && carriedByValue (.ref y.1))) = true
    · exact wp_if_pos c (wpAny_pure ⟨⟨rfl, rfl⟩, al2⟩)
    · refine wp_if_neg c (wpAny_bind (wpAny_eqIsQuiet_tuple h ?_))
      simp only [Bool.not_true, Bool.false_eq_true, if_false]
      refine wpAny_bind (wpAny_eqIsQuiet_tuple ty ?_)
      simp only [Bool.not_true, Bool.false_eq_true, if_false]
      refine wpAny_bind (noclass_tk h ?_)
      simp only [Bool.false_eq_true, if_false]
      refine wpAny_bind (noclass_tk ty ?_)
      simp only [Bool.false_eq_true, if_false]
      exact wpAny_pure ⟨⟨rfl, rfl⟩, al2⟩
  · obtain ⟨r1, r2⟩ := r
    obtain ⟨⟨hr, rfl⟩, _⟩ := hz
    cases (show r1 = none from hr)
    exact wpAny_pure q

/-! ### the set as it stands -/
/-- without the tuples -/
structure Bare (P : Program) (w : World) (h : Heap) (S : Addr) (L : List Pr) (es : Array (Int × Value)) (ep : Nat) (t : SetTable) : Prop where
  at_ : ∃ o, h.get? S = some o ∧ o.ExactSet ∧ o.data = .set es ep t
  row : es.toList = L.map (rw1 P w)
  tab : TabOk t (L.map (hsh P w))
  one : (L.map Prod.snd).Nodup
  ld : w.params.followText "set-order" = true ∨ t.led = true
  rm : 5 * L.length < 3 * t.mask
  few : L.length < 64
structure Ms (P : Program) (w : World) (h : Heap) (S : Addr) (L : List Pr) (es : Array (Int × Value)) (ep : Nat) (t : SetTable) : Prop extends Bare P w h S L es ep t where
  tks : ∀ p ∈ L, Tk P w h p
variable {S : Addr} {L : List Pr} {es : Array (Int × Value)} {ep : Nat} {t : SetTable}
theorem row_size {es : Array (Int × Value)} (h : es.toList = L.map (rw1 P w)) : es.size = L.length := by
  have := congrArg List.length h
  simpa using this
theorem row_at {es : Array (Int × Value)} (h : es.toList = L.map (rw1 P w)) {i : Nat} {p : Pr} (hp : L[i]? = some p) : es[i]? = some (rw1 P w p) := by
  rw [← Array.getElem?_toList, h, List.getElem?_map, hp]
  rfl
theorem Bare.places {h : Heap} (R : Bare P w h S L es ep t) : t.place.size = L.length := by
  have := R.tab.sz
  rwa [List.length_map] at this
theorem fits_of (hd : t.dummies = #[]) (h1 : t.place.size = es.size) (h2 : es.size ≤ t.mask) : t.fits es.size = true := by
  unfold SetTable.fits SetTable.fill
  rw [hd]
  simp [h1, h2]
theorem Bare.fit {h : Heap} (R : Bare P w h S L es ep t) : t.fits es.size = true := by
  have a := R.places
  have b := row_size R.row
  have c := R.rm
  exact fits_of R.tab.dm (a.trans b.symm) (by omega)
theorem Bare.gave {h : Heap} (R : Bare P w h S L es ep t) : ¬ t.gaveWay = true := by
  unfold SetTable.gaveWay
  simp [mask_odd R.tab.mok]
abbrev pb (t : SetTable) (x : Int) (c : Nat) : SetTable.Probe := nth t.mask (runAt t.mask (SetTable.bits x % (t.mask + 1)) (SetTable.bits x)) c
theorem nth_dummy (m : Nat) : ∀ (n : Nat) (p : SetTable.Probe), p.dummy = none → (nth m p n).dummy = none
  | 0, _, h => h
  | n + 1, p, h => nth_dummy m n (adv m p) (by unfold adv; split <;> exact h)
/-- looking for p, from step c of its way on: K is the first free step -/
theorem look (R : Ms P w s.heap S L es ep t) {p : Pr} (hp : Tk P w s.heap p) (hu : A.units < cLine) {K : Nat} (k1 : K < 10 * SetTable.turns t.mask) (k2 : way t.mask (hsh P w p) K ∉ t.place.toList)
    (k3 : ∀ c, c < K → way t.mask (hsh P w p) c ∈ t.place.toList) {Q : SetFound → Shared → Prop} (yes : p.2 ∈ L.map Prod.snd → Q (.there none) s) (no : p.2 ∉ L.map Prod.snd → Q (.free (way t.mask (hsh P w p) K) false) s) :
    ∀ (f c : Nat) (st : Option SetTable.Probe), st.getD (t.probeStart (hsh P w p)) = pb t (hsh P w p) c → c ≤ K → K - c < f →
      (∀ (i : Nat) r, L[i]? = some r → r.2 = p.2 → ∃ d, c ≤ d ∧ d < K ∧ t.place.toList[i]? = some (way t.mask (hsh P w p) d)) →
      wpAny (model P w) A (setSearchFrom S (.ref p.1) (hsh P w p) true f st) Q E s := by
  intro f
  induction f with
  | zero => exact fun c st _ _ z _ => absurd z (Nat.not_lt_zero _)
  | succ f ih =>
    intro c st e hc hf hre
    obtain ⟨o, ho, hex, hd⟩ := R.at_
    have hsum : c + (K - c) = K := by omega
    rw [setSearchFrom_succ]
    refine wpAny_bind (wpAny_setState_of ho hd R.fit ?_)
    dsimp only
    refine wp_if_neg R.gave ?_
    try refine wpAny_bind (wpAny_pure ?_)
    have shift : ∀ q, nth t.mask (pb t (hsh P w p) c) q = pb t (hsh P w p) (c + q) := fun q => (nth_add t.mask c _ q).symm
    have shj : ∀ q, (nth t.mask (pb t (hsh P w p) c) q).j = way t.mask (hsh P w p) (c + q) := fun q => congrArg SetTable.Probe.j (shift q)
    have hat : ∀ (i : Nat) r, L[i]? = some r → (es[i]?.map (·.1)).getD 0 = hsh P w r := fun i r hr => by
      rw [row_at R.row hr]
      rfl
    have G := go_spec t R.tab.ris R.tab.dm (fun i => (es[i]?.map (·.1)).getD 0) (hsh P w p) (10 * SetTable.turns t.mask) (K - c) (pb t (hsh P w p) c) (nth_dummy _ _ _ rfl) (by omega)
      (fun q hq => by rw [shj]; exact k3 (c + q) (by omega)) (by rw [shj, hsum]; exact k2)
    rcases G with ⟨q, i, hq, hi, _, hno, hgo⟩ | ⟨hno, hgo⟩
    · have pe : t.probe (fun i => (es[i]?.map (·.1)).getD 0) (hsh P w p) (st.getD (t.probeStart (hsh P w p))) = some (.candidate (way t.mask (hsh P w p) (c + q)) i (pb t (hsh P w p) (c + (q + 1)))) := by
        rw [e, ← shj, ← shift]
        exact hgo
      rw [pe]
      dsimp only
      rw [shj] at hi
      have il : i < L.length := by
        have z := (List.getElem?_eq_some_iff.mp hi).1
        rw [Array.length_toList, R.places] at z
        exact z
      obtain ⟨r, hr⟩ : ∃ r, L[i]? = some r := ⟨_, List.getElem?_eq_getElem il⟩
      have rm := List.mem_of_getElem? hr
      have live : t.slot (way t.mask (hsh P w p) (c + q)) = .live i := slot_live R.tab.ris hi
      have cont : wpAny (model P w) A (searchRest S (.ref p.1) (hsh P w p) true f es t (way t.mask (hsh P w p) (c + q)) i (pb t (hsh P w p) (c + (q + 1)))) Q E s := by
        unfold searchRest
        rw [row_at R.row hr]
        dsimp only
        refine wpAny_bind (wpAny_holding (wpAny_eqBool_tuple hu (R.tks r rm) hp ?_))
        refine wpAny_bind (wpAny_setState_of ho hd R.fit ?_)
        dsimp only
        by_cases same : r.2 = p.2
        · refine wp_if_pos (by simp [same]) (wpAny_pure (yes ?_))
          rw [← same]
          exact List.mem_map_of_mem rm
        · refine wp_if_neg (by simp [same]) ?_
          try refine wpAny_bind (wpAny_pure ?_)
          rw [sameMem]
          dsimp only
          simp only [if_true, live, row_at R.row hr]
          refine wpAny_bind (wpAny_isSame_ref_self (wpAny_bind (wpAny_pure ?_)))
          simp only [if_true]
          refine wp_if_neg (by simp [same]) ?_
          refine ih (c + (q + 1)) _ rfl (by omega) (by omega) fun j r' hj hs => ?_
          obtain ⟨d, d1, d2, d3⟩ := hre j r' hj hs
          have hh : (es[j]?.map (·.1)).getD 0 = hsh P w p := by rw [hat j r' hj]; exact congrArg (tupleKeyHash (mixKind P w)) hs
          refine ⟨d, ?_, d2, d3⟩
          have ne : d ≠ c + q := fun ec => by
            rw [ec] at d3
            have z := slot_live R.tab.ris d3
            rw [live] at z
            injection z with z
            rw [← z, hr] at hj
            cases hj
            exact same hs
          have nlt : ¬ d < c + q := fun lt => hno (d - c) j (by omega) (by rw [shj, show c + (d - c) = d by omega]; exact d3) hh
          omega
      by_cases hl : t.led = true
      · refine wp_if_neg (by simp [hl]) ?_
        try refine wpAny_bind (wpAny_pure ?_)
        exact cont
      · refine wp_if_pos (by simp [hl]) (wpAny_bind (unseen hp (fun y hy => ?_) ?_))
        · obtain ⟨x, hx, rfl⟩ := List.mem_map.mp hy
          have hx2 : x ∈ es.toList := by
            have : x ∈ es ∧ x.1 = hsh P w p := by simpa using hx
            simpa using this.1
          rw [R.row] at hx2
          obtain ⟨r2, hr2, rfl⟩ := List.mem_map.mp hx2
          exact ⟨r2, rfl, R.tks r2 hr2⟩
        · refine wp_if_neg (by decide) ?_
          try refine wpAny_bind (wpAny_pure ?_)
          exact cont
    · have pe : t.probe (fun i => (es[i]?.map (·.1)).getD 0) (hsh P w p) (st.getD (t.probeStart (hsh P w p))) = some (.empty (way t.mask (hsh P w p) K) none) := by
        have z := shj (K - c)
        rw [hsum] at z
        rw [e, ← z]
        exact hgo
      rw [pe]
      dsimp only
      refine wpAny_pure (no fun hm => ?_)
      obtain ⟨r, hr, hs⟩ := List.mem_map.mp hm
      obtain ⟨j, hj⟩ := List.getElem?_of_mem hr
      obtain ⟨d, d1, d2, d3⟩ := hre j r hj hs
      exact hno (d - c) j (by omega) (by rw [shj, show c + (d - c) = d by omega]; exact d3) ((hat j r hj).trans (congrArg (tupleKeyHash (mixKind P w)) hs))

theorem seek (R : Ms P w s.heap S L es ep t) {p : Pr} (hp : Tk P w s.heap p) (hu : A.units < cLine) {Q : SetFound → Shared → Prop} (yes : p.2 ∈ L.map Prod.snd → Q (.there none) s)
    (no : ∀ K, p.2 ∉ L.map Prod.snd → way t.mask (hsh P w p) K ∉ t.place.toList → (∀ c, c < K → way t.mask (hsh P w p) c ∈ t.place.toList) → Q (.free (way t.mask (hsh P w p) K) false) s) :
    wpAny (model P w) A (setSearch S (.ref p.1) (hsh P w p) true) Q E s := by
  have rm := R.rm
  obtain ⟨K, k1, k2, k3⟩ := R.tab.first (by rw [List.length_map]; omega) (hsh P w p)
  have tu : SetTable.turns t.mask ≤ 142 := by
    unfold SetTable.turns
    rcases R.tab.mok with z | z | z <;> rw [z] <;> decide
  unfold setSearch
  refine look R hp hu k1 k2 k3 yes (fun n => no K n k2 k3) 100000 0 none rfl (Nat.zero_le _) (by omega) fun i r hr hs => ?_
  have il : i < t.place.toList.length := by
    rw [Array.length_toList, R.places]
    exact (List.getElem?_eq_some_iff.mp hr).1
  have hj := List.getElem?_eq_getElem il
  obtain ⟨d, d1, d2⟩ := R.tab.before (h := hsh P w p) k2 (by rw [List.getElem?_map, hr]; exact congrArg (fun c => some (tupleKeyHash (mixKind P w) c)) hs) hj
  exact ⟨d, Nat.zero_le _, d1, by rw [d2]; exact hj⟩
/-- a tuple is not the set that is written -/
theorem tk_but {h h' : Heap} {p : Pr} {o : Obj} (x : Tk P w h p) (ho : h.get? S = some o) (hd : o.data = .set es ep t) (b : Heap.SameBut S h h') : Tk P w h' p := by
  obtain ⟨o1, its, n, g1, g2, g3, g4⟩ := x
  refine ⟨o1, its, n, (b.2 p.1 fun z => ?_).trans g1, g2, g3, g4⟩
  rw [z, ho] at g1
  cases g1
  rw [hd] at g3
  cases g3
theorem all_in : ∀ (L : List Pr) (n : Nat), n ≤ L.length → (List.range n).filterMap (fun i => L[i]?) = L.take n
  | _, 0, _ => rfl
  | L, n + 1, h => by
    rw [List.range_succ, List.filterMap_append, all_in L n (by omega), List.take_succ]
    simp [List.getElem?_eq_getElem (show n < L.length from h)]
/-- the rows in another order -/
theorem reorder {es : Array (Int × Value)} (hr : es.toList = L.map (rw1 P w)) {od : Array Nat} (hp : od.toList.Perm (List.range L.length)) :
    ∃ M : List Pr, (od.filterMap (es[·]?)).toList = M.map (rw1 P w) ∧ M.Perm L ∧ M.map (hsh P w) = od.toList.map fun i => (es.map (·.1)).getD i 0 := by
  refine ⟨od.toList.filterMap fun i => L[i]?, ?_, ?_, ?_⟩
  · rw [Array.toList_filterMap, List.map_filterMap]
    congr 1
    funext i
    rw [← Array.getElem?_toList, hr, List.getElem?_map]
  · have z := hp.filterMap fun i => L[i]?
    rwa [all_in L L.length (Nat.le_refl _), List.take_length] at z
  · have key : ∀ l : List Nat, (∀ i ∈ l, i < L.length) → (l.filterMap fun i => L[i]?).map (hsh P w) = l.map fun i => (es.map (·.1)).getD i 0 := by
      intro l
      induction l with
      | nil => exact fun _ => rfl
      | cons i l ih =>
        intro h
        have il := h i List.mem_cons_self
        have e : (es.map (·.1)).getD i 0 = hsh P w L[i] := by
          rw [Array.getD_eq_getD_getElem?, Array.getElem?_map, row_at hr (List.getElem?_eq_getElem il)]
          rfl
        rw [List.filterMap_cons_some (List.getElem?_eq_getElem il), List.map_cons, List.map_cons, e, ih fun j hj => h j (List.mem_cons_of_mem _ hj)]
    exact key _ fun i hi => List.mem_range.mp (hp.mem_iff.mp hi)
/-- a larger table -/
theorem relay {o : Obj} (ho : s.heap.get? S = some o) (hex : o.ExactSet) (hd : o.data = .set es ep t) (hr : es.toList = L.map (rw1 P w)) (T : TabOk t (L.map (hsh P w))) (hm : L.length ≤ t.mask) (one : (L.map Prod.snd).Nodup)
    (tks : ∀ p ∈ L, Tk P w s.heap p) (ld : w.params.followText "set-order" = true ∨ t.led = true) (few : L.length < 64) {want M : Nat} (m1 : SetTable.sizeAbove want = M + 1) (m2 : MaskOk M) (m3 : M ≤ 127) (m4 : 5 * L.length < 3 * M) {Q : Unit → Shared → Prop}
    (q : ∀ h' L' es' ep' t', Heap.SameBut S s.heap h' → Ms P w h' S L' es' ep' t' → L'.Perm L → Q () { s with heap := h' }) : wpAny (model P w) A (setRelay S want) Q E s := by
  have z1 := row_size hr
  have z2 : t.place.size = L.length := by have := T.sz; rwa [List.length_map] at this
  have fit : t.fits es.size = true := fits_of T.dm (z2.trans z1.symm) (by omega)
  obtain ⟨t', od, e1, e2, T', e3, e4, _, _⟩ := relaid_ok t (hs := es.map (·.1)) (wanted := want) (M := M) (by omega) m2 (by rw [Array.size_map]; omega)
  rw [Array.size_map, z1] at e2
  obtain ⟨L', f1, f2, f3⟩ := reorder hr e2
  rw [← f3] at T'
  have z3 : (od.filterMap (es[·]?)).size = es.size := by rw [row_size f1, f2.length_eq, z1]
  rw [setRelay_eq]
  refine wpAny_bind (wpAny_setState_of ho hd fit ?_)
  dsimp only
  refine wp_if_neg (by rw [sizeLine_eq]; omega) ?_
  try refine wpAny_bind (wpAny_pure ?_)
  rw [e1]
  dsimp only
  refine wpAny_bind ?_
  refine wp_if_neg (by rw [z3]; simp) ?_
  try refine wpAny_bind (wpAny_pure ?_)
  refine wpAny_pure ?_
  dsimp only
  refine wpAny_storeSet_of ho hd ?_ (by rw [z3, sizeLine_eq]; omega)
  have but : Heap.SameBut S s.heap (s.heap.update S (Obj.putSet (od.filterMap (es[·]?)) t')) := Heap.SameBut.update ..
  refine q _ L' (od.filterMap (es[·]?)) (ep + 1) t' but { at_ := ⟨_, store_at ho hd, ⟨hex.1, hex.2.1, hex.2.2⟩, rfl⟩, row := f1, tab := T', one := (f2.map Prod.snd).nodup_iff.mpr one, ld := e4 ▸ ld, rm := ?_, few := f2.length_eq ▸ few, tks := fun p hp => tk_but (tks p (f2.mem_iff.mp hp)) ho hd but } f2
  rw [f2.length_eq, e3]
  exact m4
theorem tab_plain {t : SetTable} {hs : List Int} (T : TabOk t hs) : TabOk { t with plain := false } hs := ⟨T.ris, T.dm, T.sz, T.mok, T.bd, T.reach⟩
/-- one more -/
theorem join1 (R : Ms P w s.heap S L es ep t) {p : Pr} (hp : Tk P w s.heap p) (hu : A.units < cLine) (fw : L.length + 1 < 64) {Q : Bool → Shared → Prop}
    (q : ∀ b h' L' es' ep' t', Heap.SameBut S s.heap h' → Ms P w h' S L' es' ep' t' → (p.2 ∈ L.map Prod.snd → L' = L) → (p.2 ∉ L.map Prod.snd → L'.Perm (p :: L)) → Q b { s with heap := h' }) :
    wpAny (model P w) A (setAddHashed S (.ref p.1) (hsh P w p)) Q E s := by
  obtain ⟨o, ho, hex, hd⟩ := R.at_
  have z1 := row_size R.row
  have rm := R.rm
  unfold setAddHashed
  refine wpAny_holding ?_
  rw [show (100000 : Nat) = 99999 + 1 from rfl, setAddHashedIn_succ]
  refine wpAny_bind (wpAny_setState_of ho hd R.fit ?_)
  dsimp only
  refine wp_if_neg (by simp [byScan, Value.scannable]) ?_
  try refine wpAny_bind (wpAny_pure ?_)
  refine wpAny_bind (seek R hp hu (fun hm => ?_) fun K hm k2 k3 => ?_)
  · exact wpAny_pure (q false s.heap L es ep t (Heap.SameBut.refl ..) R (fun _ => rfl) (absurd hm))
  dsimp only
  refine wpAny_bind (wpAny_setState_of ho hd R.fit ?_)
  dsimp only
  obtain ⟨p1, p2, p3, p4, p5, _, _, _, p9⟩ := R.tab.put k2 k3
  rw [List.length_map] at p2 p9
  generalize hpt : t.put (way t.mask (hsh P w p) K) = pt at p1 p3 p4 p5 p9 ⊢
  obtain ⟨t1, n⟩ := pt
  dsimp only at p1 p3 p4 p5 p9 ⊢
  rw [← p1] at p2 p3
  have fin : ∀ t2 : SetTable, TabOk t2 ((L.map (hsh P w)).take n ++ hsh P w p :: (L.map (hsh P w)).drop n) → t2.mask = t.mask → t2.led = t.led → t2.fill = L.length + 1 →
      wpAny (model P w) A (do
        storeSet S (SetTable.insertAt es n (hsh P w p, .ref p.1)) t2
        if !false && t2.tooFull then setRelay S (SetTable.grown (es.size + 1))
        return true) Q E s := by
    intro t2 T2 w1 w2 w3
    have row : (SetTable.insertAt es n (hsh P w p, .ref p.1)).toList = (L.take n ++ p :: L.drop n).map (rw1 P w) := by
      rw [SetTable.toList_insertAt, R.row, List.map_append, List.map_cons, List.map_take, List.map_drop]
    rw [show (L.map (hsh P w)).take n ++ hsh P w p :: (L.map (hsh P w)).drop n = (L.take n ++ p :: L.drop n).map (hsh P w) by rw [List.map_append, List.map_cons, List.map_take, List.map_drop]] at T2
    have pm : (L.take n ++ p :: L.drop n).Perm (p :: L) := by
      have := List.perm_middle (a := p) (l₁ := L.take n) (l₂ := L.drop n)
      rwa [List.take_append_drop] at this
    generalize L.take n ++ p :: L.drop n = L1 at row T2 pm
    generalize SetTable.insertAt es n (hsh P w p, .ref p.1) = es1 at row ⊢
    have len : L1.length = L.length + 1 := pm.length_eq
    have one1 : (L1.map Prod.snd).Nodup := (pm.map Prod.snd).nodup_iff.mpr (List.nodup_cons.mpr ⟨hm, R.one⟩)
    refine wpAny_bind (wpAny_storeSet_of ho hd ?_ (by rw [row_size row, sizeLine_eq]; omega))
    have but : Heap.SameBut S s.heap (s.heap.update S (Obj.putSet es1 t2)) := Heap.SameBut.update ..
    have ho1 := store_at (es' := es1) (t' := t2) ho hd
    generalize s.heap.update S (Obj.putSet es1 t2) = h1 at but ho1 ⊢
    have tks1 : ∀ r ∈ L1, Tk P w h1 r := fun r hr => by
      rcases List.mem_cons.mp (pm.mem_iff.mp hr) with e | e
      · exact e ▸ tk_but hp ho hd but
      · exact tk_but (R.tks r e) ho hd but
    have ld1 : w.params.followText "set-order" = true ∨ t2.led = true := w2 ▸ R.ld
    have full : t2.tooFull = decide ((L.length + 1) * 5 ≥ t.mask * 3) := by
      unfold SetTable.tooFull
      rw [w3, w1]
    by_cases hf : t2.tooFull = true
    · first
        | (refine wpAny_bind ?_; refine wp_if_pos (by simp [hf]) ?_)
        | (refine wp_if_pos (by simp [hf]) ?_; refine wpAny_bind ?_)
      rw [full, decide_eq_true_eq] at hf
      rw [z1]
      have two : (t.mask = 7 ∧ L.length = 4) ∨ (t.mask = 31 ∧ L.length = 18) := by
        rcases R.tab.mok with e | e | e
        · exact .inl ⟨e, by omega⟩
        · exact .inr ⟨e, by omega⟩
        · omega
      have go : ∀ M, SetTable.sizeAbove (SetTable.grown (L.length + 1)) = M + 1 → MaskOk M → M ≤ 127 → 5 * (L.length + 1) < 3 * M → wpAny (model P w) A (setRelay S (SetTable.grown (L.length + 1))) (fun _ z => wpAny (model P w) A (pure true) Q E z) E { s with heap := h1 } := by
        intro M a1 a2 a3 a4
        refine relay (s := { s with heap := h1 }) ho1 ⟨hex.1, hex.2.1, hex.2.2⟩ rfl row T2 (by rw [len, w1]; omega) one1 tks1 ld1 (by rw [len]; exact fw) a1 a2 a3 (by rw [len]; exact a4) ?_
        exact fun h2 L2 es2 ep2 t3 but2 R2 pm2 => wpAny_pure (q true h2 L2 es2 ep2 t3 (but.trans but2) R2 (fun z => absurd z hm) fun _ => pm2.trans pm)
      rcases two with ⟨_, e⟩ | ⟨_, e⟩
      · exact go 31 (by rw [e, size_20]) (.inr (.inl rfl)) (by decide) (by omega)
      · exact go 127 (by rw [e, size_76]) (.inr (.inr rfl)) (by decide) (by omega)
    · first
        | refine wp_if_neg (by simp [hf]) ?_
        | (refine wpAny_bind ?_; refine wp_if_neg (by simp [hf]) ?_; refine wpAny_pure ?_)
      rw [full, decide_eq_true_eq] at hf
      exact wpAny_pure (q true h1 L1 es1 (ep + 1) t2 but { at_ := ⟨_, ho1, ⟨hex.1, hex.2.1, hex.2.2⟩, rfl⟩, row := row, tab := T2, one := one1, ld := ld1, rm := by rw [len, w1]; omega, few := by rw [len]; exact fw, tks := tks1 } (fun z => absurd z hm) fun _ => pm)
  have fin2 : ∀ b : Bool, wpAny (model P w) A (do
      storeSet S (SetTable.insertAt es n (hsh P w p, .ref p.1)) (if b = true then t1 else { t1 with plain := false })
      if !false && (if b = true then t1 else { t1 with plain := false }).tooFull then setRelay S (SetTable.grown (es.size + 1))
      return true) Q E s := by
    intro b
    cases b with
    | true => exact fin t1 p3 p4 p5 p9
    | false => exact fin { t1 with plain := false } (tab_plain p3) p4 p5 p9
  by_cases hpl : t1.plain = true
  · first
      | (refine wpAny_bind ?_; refine wp_if_pos hpl ?_; exact byval_tk hp fin2)
      | exact wp_if_pos hpl (wpAny_bind (byval_tk hp fin2))
  · first
      | (refine wpAny_bind ?_; refine wp_if_neg hpl ?_; exact wpAny_pure (fin2 true))
      | exact wp_if_neg hpl (wpAny_bind (wpAny_pure (fin2 true)))
end
end Rw
set_option Elab.async false
set_option linter.all false
set_option maxRecDepth 100000
set_option maxHeartbeats 6400000
/-! own layer: set(l), l a list of tuples of ints and texts; its len -/
namespace Rw
open PySem PySem.Spec PySem.Calls PyProof.Rows L2
section
variable {P : Program} {w : World} {A : Around} {E : Value → Shared → Prop} {s : Shared}
/-- the first i of ks are in -/
structure InBy (ks : List Pr) (i : Nat) (L : List Pr) : Prop where
  only : ∀ p ∈ L, p ∈ ks.take i
  each : ∀ p ∈ ks.take i, p.2 ∈ L.map Prod.snd
theorem InBy.next {ks L L' : List Pr} {i : Nat} {p : Pr} (g : InBy ks i L) (h : ks[i]? = some p) (a : p.2 ∈ L.map Prod.snd → L' = L) (b : p.2 ∉ L.map Prod.snd → L'.Perm (p :: L)) : InBy ks (i + 1) L' := by
  have e : ks.take (i + 1) = ks.take i ++ [p] := by rw [List.take_succ, h]; rfl
  by_cases c : p.2 ∈ L.map Prod.snd
  · rw [a c]
    refine ⟨fun r hr => ?_, fun r hr => ?_⟩
    · rw [e]
      exact List.mem_append_left _ (g.only r hr)
    · rw [e] at hr
      rcases List.mem_append.mp hr with z | z
      · exact g.each r z
      · cases List.mem_singleton.mp z
        exact c
  · have pm := b c
    refine ⟨fun r hr => ?_, fun r hr => ?_⟩
    · rw [e]
      rcases List.mem_cons.mp (pm.mem_iff.mp hr) with z | z
      · exact List.mem_append_right _ (List.mem_singleton.mpr z)
      · exact List.mem_append_left _ (g.only r z)
    · rw [(pm.map Prod.snd).mem_iff, List.map_cons]
      rw [e] at hr
      rcases List.mem_append.mp hr with z | z
      · exact List.mem_cons_of_mem _ (g.each r z)
      · cases List.mem_singleton.mp z
        exact List.mem_cons_self
theorem few_of : ∀ {l D : List Pr}, l.Nodup → (∀ x ∈ l, x ∈ D) → l.length ≤ D.length
  | [], _, _, _ => Nat.zero_le _
  | x :: l, D, nd, h => by
    obtain ⟨n1, n2⟩ := List.nodup_cons.mp nd
    obtain ⟨a, b, rfl⟩ := List.append_of_mem (h x List.mem_cons_self)
    have z := few_of (D := a ++ b) n2 fun y hy => by
      rcases List.mem_append.mp (h y (List.mem_cons_of_mem _ hy)) with q | q
      · exact List.mem_append_left _ q
      · rcases List.mem_cons.mp q with q | q
        · exact absurd (q ▸ hy) n1
        · exact List.mem_append_right _ q
    rw [List.length_append] at z
    rw [List.length_append, List.length_cons, List.length_cons]
    omega
theorem InBy.short {ks L : List Pr} {i : Nat} (g : InBy ks i L) (one : (L.map Prod.snd).Nodup) : L.length ≤ i := by
  have nd : L.Nodup := List.Pairwise.of_map Prod.snd (fun _ _ ne e => ne (congrArg Prod.snd e)) one
  have sub : L.length ≤ (ks.take i).length := few_of nd g.only
  have := List.length_take_le i ks
  omega
theorem tk_keep {h h' : Heap} {p : Pr} (x : Tk P w h p) (k : ∀ b o, h.get? b = some o → h'.get? b = some o) : Tk P w h' p := let ⟨o, its, n, g, r⟩ := x; ⟨o, its, n, k _ _ g, r⟩
theorem Ms.keep {h h' : Heap} {S : Addr} {L : List Pr} {es : Array (Int × Value)} {ep : Nat} {t : SetTable} (R : Ms P w h S L es ep t) (k : ∀ o, h.get? S = some o → h'.get? S = some o) (kt : ∀ p ∈ L, Tk P w h' p) : Ms P w h' S L es ep t :=
  let ⟨o, g, r⟩ := R.at_
  { R with at_ := ⟨o, k o g, r⟩, tks := kt }
theorem ms_new {h : Heap} {S : Addr} (ho : h.get? S = some (newSet w)) : Ms P w h S [] #[] 0 (.fresh 0 0 (!w.params.followText "set-order")) where
  at_ := ⟨_, ho, ⟨rfl, rfl, rfl⟩, rfl⟩
  row := rfl
  tab := ⟨List.Pairwise.nil, rfl, rfl, .inl rfl, (fun x hx => nomatch hx), fun i h j hi => by simp at hi⟩
  one := List.nodup_nil
  ld := by
    cases h : w.params.followText "set-order"
    · exact .inr rfl
    · exact .inl rfl
  rm := by
    show 5 * 0 < 3 * 7
    decide
  few := by
    show 0 < 64
    decide
  tks := fun p hp => nomatch hp
/-- the loop that takes them in -/
theorem take_in {I : Addr} {fp wr : List Addr} {G : Array GenState → Array GenState → Prop} {Pv : Nat → Value → Prop} {St : Nat → Shared → Prop} {R : Result → Shared → Prop} {S : Addr} {ks : List Pr} {h0 : Heap}
    (W : WalksS P w A.in1 I fp wr G ks.length Pv St) (away : S ∉ fp) (few : ks.length < 64) (val : ∀ i v, Pv i v → ∃ p, ks[i]? = some p ∧ v = .ref p.1) (tk : ∀ p ∈ ks, Tk P w h0 p) (S0 : h0.get? S = none)
    (w0 : ∀ b ∈ wr, h0.get? b = none) (hu : A.in1.units < cLine)
    (fin : ∀ s' L es ep t, Moved (S :: wr) G s s' → Ms P w s'.heap S L es ep t → InBy ks ks.length L → (∀ b o, h0.get? b = some o → s'.heap.get? b = some o) → R (.ok (.ret .none)) s') :
    ∀ (m i : Nat) (s1 : Shared), i + m = ks.length → St i s1 → Moved (S :: wr) G s s1 → (∀ b o, h0.get? b = some o → s1.heap.get? b = some o) → (∃ L es ep t, Ms P w s1.heap S L es ep t ∧ InBy ks i L) →
      codeAny (model P w) A (.builtin "set.update.loop" ⟨[.ref S, .ref I], []⟩) R s1 := by
  have awr : S ∉ wr := fun z => away (W.sub _ z)
  have on : ∀ {s1 s2 : Shared}, Moved wr G s1 s2 → (∀ b o, h0.get? b = some o → s1.heap.get? b = some o) → ∀ b o, h0.get? b = some o → s2.heap.get? b = some o := fun m k b o e =>
    m.heap b o (fun z => by rw [w0 b z] at e; cases e) (k b o e)
  have wide : ∀ {s1 s2 : Shared}, Moved wr G s1 s2 → Moved (S :: wr) G s1 s2 := fun m => m.mono fun b hb => List.mem_cons_of_mem _ hb
  intro m
  induction m with
  | zero =>
    intro i s1 hi st mv k0 ⟨L, es, ep, t, hS, g⟩
    have e : i = ks.length := hi
    subst e
    refine codeAny_builtin F.entry_set_update_loop ?_
    rw [Around.under_plainId F.plain_set_update_loop _]
    show wpAny _ A.in1 (pyNext (.ref I) >>= _) _ _ s1
    refine wpAny_bind (W.done s1 _ _ st fun s2 m2 => ?_)
    have k2 := on m2 k0
    exact wpAny_pure (fin s2 L es ep t (Moved.trans W.gtrans mv (wide m2)) (hS.keep (fun o e => m2.heap S o awr e) fun p hp => tk_keep (tk p (List.mem_of_mem_take (g.only p hp))) k2) g k2)
  | succ m ih =>
    intro i s1 hi st mv k0 ⟨L, es, ep, t, hS, g⟩
    refine codeAny_builtin F.entry_set_update_loop ?_
    rw [Around.under_plainId F.plain_set_update_loop _]
    show wpAny _ A.in1 (pyNext (.ref I) >>= _) _ _ s1
    refine wpAny_bind (W.item i s1 _ _ (by omega) st fun v s2 pv st2 m2 => ?_)
    obtain ⟨p, hp, rfl⟩ := val i v pv
    have k2 := on m2 k0
    have hS2 := hS.keep (h' := s2.heap) (fun o e => m2.heap S o awr e) fun r hr => tk_keep (tk r (List.mem_of_mem_take (g.only r hr))) k2
    have tp : Tk P w s2.heap p := tk_keep (tk p (List.mem_of_getElem? hp)) k2
    show wpAny _ A.in1 (holding [Value.ref p.1] (setAdd S (.ref p.1)) >>= _) _ _ s2
    refine wpAny_bind (wpAny_holding ?_)
    unfold setAdd
    refine wpAny_holding (wpAny_bind (wpAny_pyHash_tuple hu tp ?_))
    have gs := g.short hS.one
    refine join1 (s := { s2 with toks := s2.toks + (p.2.length + 1) }) hS2 tp hu (by omega) fun b h' L' es' ep' t' but hS3 c1 c2 => ?_
    have k3 : ∀ b o, h0.get? b = some o → h'.get? b = some o := fun b o e => (but.2 b fun z => by rw [z, S0] at e; cases e).trans (k2 b o e)
    refine wpAny_pure ⟨plainId_quiet F.plain_set_update_loop _, ih (i + 1) _ (by omega) (W.frame _ s2 h' _ st2 (Nat.le_add_right _ _) fun b hb o e => ?_) ?_ k3 ⟨L', es', ep', t', hS3, g.next hp c1 c2⟩⟩
    · exact (but.2 b fun z => away (z ▸ hb)).trans e
    · exact Moved.trans W.gtrans mv ((wide m2).then_heap (Nat.le_add_right _ _) fun b o hb e => (but.2 b fun z => hb (z ▸ List.mem_cons_self)).trans e)
/-- S.__init__(l) -/
theorem init_tks {l S : Addr} {items : Array Value} (ks : List Pr) {R : Result → Shared → Prop} (hh : A.handled = none) (hl : s.heap.IsList l items) (hit : items.toList = ks.map fun p => Value.ref p.1) (few : ks.length < 64) (hu : A.units + 3 < cLine)
    {h0 : Heap} (tk : ∀ p ∈ ks, Tk P w h0 p) (S0 : h0.get? S = none) (k0 : ∀ b o, h0.get? b = some o → s.heap.get? b = some o) (hS : s.heap.get? S = some (newSet w)) (hne : S ≠ l)
    (hq : ∀ (h' : Heap) (tk : Nat) L es ep t, Ms P w h' S L es ep t → InBy ks ks.length L → (∀ b o, b ≠ S → s.heap.get? b = some o → h'.get? b = some o) → R (.ok (.ret .none)) { s with heap := h', toks := tk }) :
    codeAny (model P w) A (.call (.builtin "set.__init__") ⟨[.ref S, .ref l], []⟩) R s := by
  have hisz : items.size = ks.length := by rw [← Array.length_toList, hit, List.length_map]
  have hT : s.TypeIs (.ref S) "set" := ⟨_, hS, rfl⟩
  refine codeAny_call_builtin F.called_set.init.plain F.entry_set_init (check_set_init_1 hT ?_)
  obtain ⟨ol, hol, hcl, nl, hdl⟩ := id hl
  obtain ⟨ocls, odict, odata, oslots⟩ := ol
  cases hcl
  cases hdl
  have sub1 := F.sub_list_set
  have sub2 := F.sub_list_frozenset
  have nodict : (Value.type "list" == Value.type "dict") = false := by decide
  unfold Builtin.«set.__init__» noKeywords Builtin.Frozenset.updateFrom
  generalize hPI : pyIter = PI
  wp_walk
  subst hPI
  have hI : S < s.heap.objs.size := Heap.lt_size hS
  have hlI : l < s.heap.objs.size := Heap.lt_size hol
  refine wpAny_pyIter_list hl ?_
  refine wpAny_bind (wpAny_runValue ?_)
  have away : S ∉ [s.heap.objs.size, l] := fun z => by
    rcases List.mem_cons.mp z with e | e
    · exact Nat.ne_of_lt hI e
    · exact hne (List.mem_singleton.mp e)
  have val : ∀ (i : Nat) (v : Value), items[i]? = some v → ∃ p, ks[i]? = some p ∧ v = .ref p.1 := fun i v hv => by
    rw [← Array.getElem?_toList, hit, List.getElem?_map] at hv
    cases e : ks[i]? with
    | none => rw [e] at hv; cases hv
    | some p => rw [e] at hv; exact ⟨p, rfl, (Option.some.inj hv).symm⟩
  have quiet : A.in1.in1.handled = none := by simp [hh]
  have W := (Walks.list (prog := P) (w := w) (A := A.in1.in1) (by simpa using quiet) s.heap.objs.size l (Nat.ne_of_lt hlI) items).toS
  rw [hisz] at W
  have beyond : ∀ b, s.heap.objs.size ≤ b → h0.get? b = none := fun b hb => by
    cases q : h0.get? b with
    | none => rfl
    | some o => exact absurd (Nat.lt_of_lt_of_le (Heap.lt_size (k0 b o q)) hb) (Nat.lt_irrefl _)
  refine take_in (s := { s with heap := s.heap.push { cls := .type "list_iterator", data := .fields #[.ref l, .int 0 0] } }) W away few val tk S0 (fun b hb => beyond b (by rw [List.mem_singleton.mp hb]; exact Nat.le_refl _)) (by show A.units + 1 + 1 < cLine; omega) (fun s' L es ep t hm hS' g k => ?_) ks.length 0 _ (Nat.zero_add _)
    ⟨⟨_, Heap.get?_push_size _ rfl, rfl, rfl⟩, hl.push _⟩ (Moved.refl fun _ => rfl) (fun b o e => Heap.get?_push_of_some _ (k0 b o e)) ⟨[], #[], 0, _, ms_new (Heap.get?_push_of_some _ hS), ⟨(fun p h => nomatch h), fun p h => by simp at h⟩⟩
  obtain ⟨h', g2, d', tk', os'⟩ := s'
  cases (show g2 = s.gens from hm.gens)
  cases (show d' = s.drawn from hm.drawn)
  cases (show os' = s.os from hm.os)
  refine wpAny_pure ?_
  show wpAny _ _ (ret Value.none) _ _ _
  refine wpAny_pure (hq h' tk' L es ep t hS' g fun b o hbS e => ?_)
  refine hm.heap b o (fun z => ?_) (Heap.get?_push_of_some _ e)
  rcases List.mem_cons.mp z with e2 | e2
  · exact hbS e2
  · exact Nat.ne_of_lt (Heap.lt_size e) (List.mem_singleton.mp e2)
/-- set(l) -/
theorem set_tks {l : Addr} {items : Array Value} (ks : List Pr) {Q : Value → Shared → Prop} (hh : A.handled = none) (hl : s.heap.IsList l items) (hit : items.toList = ks.map fun p => Value.ref p.1) (few : ks.length < 64) (hu : A.units + 8 < cLine) (tk : ∀ p ∈ ks, Tk P w s.heap p)
    (h : ∀ (h' : Heap) (tk : Nat) L es ep t, Ms P w h' s.heap.objs.size L es ep t → InBy ks ks.length L → (∀ b o, s.heap.get? b = some o → h'.get? b = some o) → Q (.ref s.heap.objs.size) { s with heap := h', toks := tk }) :
    wpAny (model P w) A (call (.type "set") [.ref l]) Q E s := by
  have C := F.called_set
  obtain ⟨c0, tl, hmro⟩ := C.mro
  have f1 := C.made
  have f2 := C.sub
  have f3 := C.notType
  have f4 := C.canCreate
  have f5 := F.typeCall_set_1 (.ref l)
  refine wpAny_call (codeAny_of_tree (wpAny_pure ⟨Code.quiet_builtin _ (by decide +kernel), codeAny_builtin F.entry_type_call ?_⟩))
  rw [Around.under_plain (weight_type_call_type "set" [.ref l] []) rfl]
  repeat (any_goals (first | assumption | wp_step))
  refine codeAny_mono (code_set_led1 (.ref l) (E := E) (Q₁ := fun v s1 => v = .ref s.heap.objs.size ∧ s1 = { s with heap := s.heap.push (newSet w) }) ⟨rfl, rfl⟩) ?_
  rintro (e | fl) s1 z
  · exact z
  · cases fl <;> first | exact z.elim | skip
    obtain ⟨rfl, rfl⟩ := z
    have g1 : (s.heap.push (newSet w)).get? s.heap.objs.size = some (newSet w) := Heap.get?_push_size _ rfl
    have g2 : Shared.TypeIs { s with heap := s.heap.push (newSet w) } (.ref s.heap.objs.size) "set" := ⟨_, g1, rfl⟩
    have g3 := C.init.lookup
    have g4 := C.init.bind (.ref s.heap.objs.size)
    repeat (any_goals (first | assumption | wp_step))
    have S0 : s.heap.get? s.heap.objs.size = none := by
      cases q : s.heap.get? s.heap.objs.size with
      | none => rfl
      | some o => exact absurd (Heap.lt_size q) (Nat.lt_irrefl _)
    refine init_tks (s := { s with heap := s.heap.push (newSet w) }) (h0 := s.heap) ks (by simp [hh]) (hl.push _) hit few (by show A.units + 1 + 3 < cLine; omega) tk S0 (fun b o e => Heap.get?_push_of_some _ e) g1 ?_ fun h' tk L es ep t R g k => ?_
    · obtain ⟨o, ho, _⟩ := hl
      exact (Nat.ne_of_lt (Heap.lt_size ho)).symm
    · show wpAny _ _ (pure _) _ _ _
      repeat (any_goals (first | assumption | wp_step))
      exact h h' tk L es ep t R g fun b o e => k b o (Nat.ne_of_lt (Heap.lt_size e)) (Heap.get?_push_of_some _ e)
end

theorem perm_of {α : Type} : ∀ {l D : List α}, l.Nodup → (∀ x ∈ l, x ∈ D) → l.length = D.length → l.Perm D
  | [], D, _, _, e => by
    rw [List.eq_nil_of_length_eq_zero e.symm]
  | x :: l, D, nd, h, e => by
    obtain ⟨n1, n2⟩ := List.nodup_cons.mp nd
    obtain ⟨a, b, rfl⟩ := List.append_of_mem (h x List.mem_cons_self)
    have z := perm_of (D := a ++ b) n2 (fun y hy => by
      rcases List.mem_append.mp (h y (List.mem_cons_of_mem _ hy)) with q | q
      · exact List.mem_append_left _ q
      · rcases List.mem_cons.mp q with q | q
        · exact absurd (q ▸ hy) n1
        · exact List.mem_append_right _ q) (by
      rw [List.length_append, List.length_cons, List.length_cons] at e
      rw [List.length_append]
      omega)
    exact (z.cons x).trans List.perm_middle.symm
theorem count_of {ks L : List Pr} (g : InBy ks ks.length L) (one : (L.map Prod.snd).Nodup) : L.length = ks.length ↔ (ks.map Prod.snd).Nodup := by
  have sub : ∀ p ∈ L, p ∈ ks := fun p hp => List.mem_of_mem_take (g.only p hp)
  have s2 : ∀ c ∈ L.map Prod.snd, c ∈ ks.map Prod.snd := fun c hc => by
    obtain ⟨p, hp, rfl⟩ := List.mem_map.mp hc
    exact List.mem_map_of_mem (sub p hp)
  have s3 : ∀ c ∈ ks.map Prod.snd, c ∈ L.map Prod.snd := fun c hc => by
    obtain ⟨p, hp, rfl⟩ := List.mem_map.mp hc
    exact g.each p (by rw [List.take_length]; exact hp)
  constructor
  · intro e
    exact (perm_of one s2 (by rw [List.length_map, List.length_map]; exact e)).nodup_iff.mp one
  · intro nd
    have a := g.short one
    have b : (ks.map Prod.snd).length ≤ (L.map Prod.snd).length := by
      have key : ∀ {l D : List (List Key)}, l.Nodup → (∀ x ∈ l, x ∈ D) → l.length ≤ D.length := by
        intro l
        induction l with
        | nil => exact fun _ _ => Nat.zero_le _
        | cons x l ih =>
          intro D nd h
          obtain ⟨n1, n2⟩ := List.nodup_cons.mp nd
          obtain ⟨a, b, rfl⟩ := List.append_of_mem (h x List.mem_cons_self)
          have z := ih (D := a ++ b) n2 fun y hy => by
            rcases List.mem_append.mp (h y (List.mem_cons_of_mem _ hy)) with q | q
            · exact List.mem_append_left _ q
            · rcases List.mem_cons.mp q with q | q
              · exact absurd (q ▸ hy) n1
              · exact List.mem_append_right _ q
          rw [List.length_append] at z
          rw [List.length_append, List.length_cons, List.length_cons]
          omega
      exact key nd s3
    rw [List.length_map, List.length_map] at b
    omega
theorem keys_of {P : Program} {w : World} : ∀ {c : List Key} {us : List Value}, Vals (c.map kV) us → ItemsAre (mixKind P w) c us
  | [], _, .nil => .nil
  | k :: c, _, .cons r t => .cons (kV_is r) (keys_of t)
section
variable {X : Cx}
theorem tk_at {pins : List (Addr × Obj)} {σ : L2.St} {H : Hp} {s : Shared} {p : Pr} (I : Inv X pins σ H s) (h : SqT X.K H p.1 (p.2.map kV)) : Tk X.prog X.w s.heap p := by
  obtain ⟨its, r, ⟨o, ho, hc, n, hd⟩, _⟩ := I.tuple h
  exact ⟨o, its.toArray, n, ho, hc, hd, by simpa using keys_of r⟩
theorem refs_at : ∀ {ks : List Pr} {us : List Value}, Vals (ks.map fun p => V.ref p.1) us → us = ks.map fun p => Value.ref p.1
  | [], _, .nil => rfl
  | p :: ks, _, .cons r t => by
    cases r
    rw [refs_at t]
    rfl
/-- len(set(xs)): as many as there are unlike tuples -/
def tLenM (K : PySem.W.Frag) (ta : TE) : TE := fun σ H Q => ta σ H fun x H1 => ∃ (l : Addr) (ks : List Pr), x = .ref l ∧ SqL K H1 l (ks.map fun p => V.ref p.1) ∧ (∀ p ∈ ks, SqT K H1 p.1 (p.2.map kV)) ∧ ks.length < 64 ∧
  ∀ m : Nat, (m = ks.length ↔ (ks.map Prod.snd).Nodup) → Q (.int m) H1
theorem pe_lenM {a : Expr} {ta : TE} {p p2 q pos : Pos} (hc : X.calm = true) (hu : X.A.units + 64 < cLine) (hg : Gl X "len") (hm : X.mg "len" = none) (hg2 : Gl X "set") (hm2 : X.mg "set" = none) (ha : PE X a ta)
    (na : starEach [a] X.env = (false, eval a X.env) :: starEach [] X.env := by rfl) : PE X (.Call (.Name "len" p) [.Call (.Name "set" p2) [a] [] q] [] pos) (tLenM X.K ta) := by
  refine ⟨fun pins s σ H Q I h => ?_⟩
  refine Call_ (ld_blt I hg hm boot_len ?_)
  refine PyProof.Rows.callWith_builtin1 (PyProof.Rows.args_cons ?_ rfl) rfl rfl
  refine Call_ (ld_blt I hg2 hm2 boot_set ?_)
  refine PyProof.Rows.callWith_type1 (PyProof.Rows.args_cons (thn (ha.run pins s σ H _ I h) fun v s1 ⟨x, H1, I1, r1, q1⟩ => PyProof.Rows.args_nil ?_) na) na rfl
  obtain ⟨l, ks, rfl, hl, hk, few, q2⟩ := q1
  cases r1
  obtain ⟨its, rv, pl, hz⟩ := I1.list hl
  refine set_tks (P := X.prog) (w := X.w) ks (I1.ok.hd hc) pl.isList (by simpa using refs_at rv) few (by omega) (fun p hp => tk_at I1 (hk p hp)) fun h' tk L es ep t R g k => PyProof.Rows.args_nil ?_
  have I2 : Inv X pins σ H1 { s1 with heap := h', toks := tk } := I1.kept (t' := tk) k
  obtain ⟨o, ho, hex, hd⟩ := R.at_
  have hn : es.size = L.length := row_size R.row
  have fw := R.few
  refine call_len_set ho hex hd R.fit (by omega) ⟨.int L.length, H1, I2.tok _, ⟨_, by rw [hn]⟩, q2 L.length (count_of g R.one)⟩
end
end Rw
set_option Elab.async false
set_option linter.all false
set_option maxRecDepth 100000
set_option maxHeartbeats 6400000
/-! own layer: enumerate(t), t a tuple -/
namespace Rw
open PySem PySem.Spec PySem.Calls PyProof.Rows L2
theorem meets_enumT (l : Addr) (items : Array Value) (n : Nat) (dct : Option Addr) (sl : Array (Option Value)) :
    Meets (Builtin.«enumerate.__new__» ⟨[.type "enumerate", .ref l], []⟩) (fun _ R s => s.heap.get? l = some { cls := .type "tuple", dict := dct, data := .seq items n, slots := sl } ∧
      R (.ok (.ret (.ref (s.heap.objs.size + 1)))) { s with heap := (s.heap.push { cls := .type "tuple_iterator", data := .fields #[.ref l, .int 0 0] }).push { cls := .type "enumerate", data := .fields #[.none, .bool false, .ref s.heap.objs.size, rawInt 0, .none, .none] } }) :=
  .of_wp fun prog w A R s h => by
    obtain ⟨hp, g, d, tk, os⟩ := s
    obtain ⟨hl, h⟩ := h
    rw [← Heap.size_push hp { cls := .type "tuple_iterator", data := .fields #[.ref l, .int 0 0] }] at h
    have sub := sub_enumerate
    have tup : Heap.IsTuple hp l items := ⟨_, hl, rfl, n, rfl⟩
    wp_walk using AutoSeq1.wpAny_loadPart' hl
    refine wpAny_stack_any fun st => wpAny_pure ?_
    split
    · rename_i c _ _ _ _ _
      cases (c == Value.type "enumerate") <;> (wp_walk using AutoSeq1.wpAny_loadPart' hl, wpAny_pyIter_tuple tup; exact ⟨_, rfl, h⟩)
    · wp_walk using AutoSeq1.wpAny_loadPart' hl, wpAny_pyIter_tuple tup
      exact ⟨_, rfl, h⟩
section
variable {P : Program} {w : World} {A : Around} {E : Value → Shared → Prop} {s : Shared}
theorem call_enumT {l : Addr} {items : Array Value} {Q : Value → Shared → Prop} (tup : s.heap.IsTuple l items)
    (q : ∀ h', IsEnum h' (s.heap.objs.size + 1) s.heap.objs.size 0 .none → h'.IsTupleIter s.heap.objs.size l 0 → (∀ b o, s.heap.get? b = some o → h'.get? b = some o) → Q (.ref (s.heap.objs.size + 1)) { s with heap := h' }) :
    wpAny (model P w) A (call (.type "enumerate") [.ref l]) Q E s := by
  obtain ⟨⟨c, dct, dt, sl⟩, hl, hc, n, hd⟩ := tup
  cases (show c = .type "tuple" from hc)
  cases (show dt = .seq items n from hd)
  refine callType_new F.called_enumerate (by decide) (F.typeCall_enumerate_1 _) (F.newCall_enumerate_1 _) (fun obj => F.args_object_init_2 obj _) F.entry_enumerate_new (meets_enumT l items n dct sl) ⟨hl, ?_⟩
  have it : (s.heap.push { cls := .type "tuple_iterator", data := .fields #[.ref l, .int 0 0] }).get? s.heap.objs.size = some { cls := .type "tuple_iterator", data := .fields #[.ref l, .int 0 0] } := Heap.get?_push_size _ rfl
  have en : IsEnum ((s.heap.push { cls := .type "tuple_iterator", data := .fields #[.ref l, .int 0 0] }).push { cls := .type "enumerate", data := .fields #[.none, .bool false, .ref s.heap.objs.size, rawInt 0, .none, .none] }) (s.heap.objs.size + 1) s.heap.objs.size 0 .none := by
    rw [← Heap.size_push s.heap { cls := .type "tuple_iterator", data := .fields #[.ref l, .int 0 0] }]
    exact Heap.get?_push_size _ rfl
  exact ⟨⟨_, en, rfl⟩, q _ en ⟨_, Heap.get?_push_of_some _ it, rfl, rfl⟩ fun b o x => Heap.get?_push_of_some _ (Heap.get?_push_of_some _ x)⟩
end
/-- the tuple at a as it stands at each turn -/
def IteT (K : PySem.W.Frag) (a : Addr) : It :=
  ⟨fun i H => ∃ (xs : List V) (x : V), SqT K H a xs ∧ xs[i]? = some x, fun i H v H' => ∃ p x, v = .ref p ∧ H p = none ∧ H' = upd H p (.tup [.int (i : Nat), x]) ∧ ∀ xs, SqT K H a xs → xs[i]? = some x, fun i H => ∃ xs : List V, SqT K H a xs ∧ xs.length ≤ i⟩
theorem walk_enumT {K : PySem.W.Frag} {a : Addr} {xs : List V} : Walk (IteT K a) xs.length (fun H => SqT K H a xs) (YPair (fun i => some (.int (i : Nat))) (fun i => xs[i]?)) := by
  refine ⟨fun i _ hi q => ⟨xs, xs[i], q, by simp [hi]⟩, fun _ q => ⟨xs, q, Nat.le_refl _⟩, fun i H v H' _ q y => ?_⟩
  obtain ⟨p, x, h1, h2, h3, h4⟩ := y
  exact ⟨p, .int (i : Nat), x, h1, h2, h3, rfl, h4 xs q⟩

theorem turn_enumT {P : Program} {w : World} {K : PySem.W.Frag} {elts : List Expr} {kk : Nat} {tpos : Pos} (a e it : Addr) :
    Turn P w K (.Tuple elts kk tpos) (IteT K a) [e, it] e (fun i h => (∃ old, IsEnum h e it ((i : Nat) : Int) old) ∧ h.IsTupleIter it a i ∧ e ≠ it ∧ e ≠ a ∧ a ≠ it) where
  mem := by simp
  obj := fun i h st b hb => by
    obtain ⟨⟨old, he⟩, ⟨o, ho, _, hd⟩, _⟩ := st
    rcases List.mem_cons.mp hb with z | z
    · exact z ▸ ⟨_, he, fun v q => nomatch q⟩
    · rw [List.mem_singleton.mp z]
      exact ⟨o, ho, fun v q => by rw [hd] at q; cases q⟩
  keep := fun i h h' st k => by
    obtain ⟨⟨old, he⟩, ⟨o, ho, r⟩, n⟩ := st
    exact ⟨⟨old, k e (by simp) _ he⟩, ⟨o, k it (by simp) o ho, r⟩, n⟩
  item := by
    intro X hP hw hK hc i pins s σ H E I hf st hg
    subst hP hw hK
    obtain ⟨⟨old, he⟩, hit, n1, n2, n3⟩ := st
    obtain ⟨xs, x, hq, hx⟩ := hg
    obtain ⟨its, rv, tp, hz⟩ := I.tuple hq
    obtain ⟨u, hu, ru⟩ := rv.get hx
    have tp : s.heap.IsTuple a its.toArray := tp
    have hel : e < s.heap.objs.size := Heap.lt_size he
    have hil : it < s.heap.objs.size := by obtain ⟨_, q, _⟩ := hit; exact Heap.lt_size q
    have hlt : i < its.toArray.size := by
      rw [List.size_toArray]
      exact (List.getElem?_eq_some_iff.mp hu).1
    refine wpAny_pyNext_enum_itemD (Draws.tuple (prog := X.prog) (w := X.w) (A := X.A.in1) (by simp [I.ok.hd hc]) it a n3 its.toArray) he ⟨hit, tp⟩ hlt n1 (by simp [n1, n2]) fun v h' tk hv ho st' hT hsz hk => ?_
    have ev : v = u := by
      have z : its.toArray[i]? = some v := hv
      rw [show its.toArray[i]? = its[i]? by simp, hu] at z
      exact (Option.some.inj z).symm
    subst ev
    refine ⟨_, rfl, wpAny_letOwnedTupleGo_enum (s := { s with heap := h', toks := tk + 1 }) ho fun h2 he2 sb => ?_⟩
    have hT2 : h2.get? s.heap.objs.size = some { cls := .type "tuple", data := .seq #[.int i tk, v] } := (sb.2 _ (Nat.ne_of_gt hel)).trans hT
    have new : ObjOk X.prog X.w (upd H s.heap.objs.size (.tup [.int (i : Nat), x])) h2 s.heap.objs.size (.tup [.int (i : Nat), x]) :=
      ⟨by show 2 ≤ sizeLine; decide, [.int i tk, v], .cons ⟨_, rfl⟩ (.cons ru .nil), ⟨_, hT2, rfl, _, rfl⟩⟩
    have I1 : Inv X pins σ (upd H s.heap.objs.size (.tup [.int (i : Nat), x])) { s with heap := h2, toks := tk + 1 } :=
      I.turnedNew (ch := [e, it]) (fun b ob hb q => (sb.2 b (fun z => hb (by simp [z]))).trans (hk b ob (fun z => hb (by simp [z])) (fun z => hb (by simp [z])) q)) hf (Nat.le_refl _) new
    refine ⟨.ref s.heap.objs.size, _, I1, rfl, ⟨_, x, rfl, I.hok.fresh (Nat.le_refl _), rfl, fun ys hy => by rw [I.tuple_inj hy hq]; exact hx⟩, ⟨⟨v, ?_⟩, ?_, n1, n2, n3⟩, fun b hb => ?_⟩
    · have e1 : ((i + 1 : Nat) : Int) = (i : Int) + 1 := by omega
      rw [e1]
      exact he2
    · obtain ⟨o, go, r⟩ := st'.1
      exact ⟨o, (sb.2 it (Ne.symm n1)).trans go, r⟩
    · have hb2 : b < s.heap.objs.size := by
        rcases List.mem_cons.mp hb with z | z
        · exact z ▸ hel
        · exact List.mem_singleton.mp z ▸ hil
      rw [upd_ne (Nat.ne_of_lt hb2)]
      exact (hf b hb).1
  done := by
    intro X hP hw hK hc i pins s σ H E I hf st hg
    subst hP hw hK
    obtain ⟨⟨old, he⟩, hit, n1, n2, n3⟩ := st
    obtain ⟨xs, hq, hx⟩ := hg
    obtain ⟨its, rv, tp, hz⟩ := I.tuple hq
    have tp : s.heap.IsTuple a its.toArray := tp
    obtain ⟨f0, f1, f2, f3, f4, f5⟩ := hf it (by simp)
    have hl := rv.length
    have D := Draws.tuple (prog := X.prog) (w := X.w) (A := X.A.in1) (by simp [I.ok.hd hc]) it a n3 its.toArray
    refine wpAny_pyNext_enum_endD (n := i) (fp := [it, a]) (P := fun _ _ => True) (St := fun j h => j = i ∧ h.IsTupleIter it a j ∧ h.IsTuple a its.toArray) ⟨fun _ _ st => let ⟨o, ho, _⟩ := st.2.1; ⟨o, ho⟩, fun j h h' st k => ⟨st.1, D.frame j h h' st.2 k⟩,
      fun j s Q E hj st q => absurd hj (by rw [st.1]; exact Nat.lt_irrefl _), fun s Q E st q => ?_⟩ he ⟨rfl, hit, tp⟩ fun h' eb => ⟨rfl, I.turned (t' := s.toks) (fun b o hb q => eb b o hb q) f0 f1 f3 f4 f5⟩
    exact wpAny_nextOf_tuple_end (by simp [I.ok.hd hc]) st.2.1 st.2.2 (by simp; omega) q
  self := fun A i s Q E st h => let ⟨⟨_, he⟩, _⟩ := st; wpAny_pyIter_enum he h
def iEnumT (K : PySem.W.Frag) (ta : TA) : TI := fun σ H R => ta σ H fun vs H1 => ∃ a xs, vs = [.ref a] ∧ SqT K H1 a xs ∧ R (IteT K a) H1
theorem pi_enumT {X : Cx} {e : Expr} {ta : TA} {p pos tpos : Pos} {elts : List Expr} {kk : Nat} (hg : Gl X "enumerate") (hm : X.mg "enumerate" = none) (ha : PA X [e] ta) (hs : starEach [e] X.env = [(false, eval e X.env)] := by rfl) :
    PI X (.Tuple elts kk tpos) (.Call (.Name "enumerate" p) [e] [] pos) (iEnumT X.K ta) := by
  refine ⟨fun pins s σ H R I h => ?_⟩
  refine Call_ (ld_blt I hg hm boot_enumerate (PyProof.Rows.callWith_type1 (thn (ha.run pos pins s σ H _ I h) fun us s1 ⟨vs, H1, I1, r1, q1⟩ => ?_) hs rfl))
  obtain ⟨a, xs, rfl, hq, q⟩ := q1
  rw [Vals.ref1 r1]
  obtain ⟨its, rv, tp, hz⟩ := I1.tuple hq
  have al : a < s1.heap.objs.size := by obtain ⟨_, z, _⟩ := tp; exact Heap.lt_size z
  refine call_enumT (show s1.heap.IsTuple a its.toArray from tp) fun h' he hit hk => wpAny_pyIter_enum he ?_
  refine ⟨s1.heap.objs.size + 1, [s1.heap.objs.size + 1, s1.heap.objs.size], _, _, H1, rfl, I1.kept (t' := s1.toks) hk, turn_enumT a (s1.heap.objs.size + 1) s1.heap.objs.size, ⟨⟨.none, he⟩, hit, Nat.succ_ne_self _, Nat.ne_of_gt (Nat.lt_succ_of_lt al), Nat.ne_of_lt al⟩, fun b hb => ?_, q⟩
  have hle : s1.heap.objs.size ≤ b := by
    rcases List.mem_cons.mp hb with z | z
    · exact z ▸ Nat.le_succ _
    · exact List.mem_singleton.mp z ▸ Nat.le_refl _
  exact I1.fpOk hle (I1.hok.fresh hle)
end Rw
set_option Elab.async false
set_option linter.all false
set_option maxRecDepth 100000
set_option maxHeartbeats 6400000
/-! own layer: comprehensions as lists of data -/
namespace Rw
open PySem PySem.Spec PyProof.Rows L2
abbrev N0 : Addr → Prop := fun _ => False
/-! data without lists -/
mutual
def tupo : PyData → Bool
  | .none | .bool _ | .int _ | .str _ => true
  | .tuple ds => tupos ds
  | _ => false
def tupos : List PyData → Bool
  | [] => true
  | d :: ds => tupo d && tupos ds
end
mutual
theorem Dm.off {M : Addr → Prop} {H : Hp} (hM : ∀ a, M a → ∀ xs, H a ≠ some (.tup xs)) : ∀ (d : PyData) (v : V), tupo d = true → Dm N0 H v d → Dm M H v d
  | .none, _, _, h => by cases h; exact .non
  | .bool _, _, _, h => by cases h; exact .bl _
  | .int _, _, _, h => by cases h; exact .int _
  | .str _, _, _, h => by cases h; exact .str _
  | .list _, _, t, _ => nomatch t
  | .tuple ds, _, t, h => by
    cases h with
    | tup _ ha hs => exact .tup (fun z => hM _ z _ ha) ha (DmAll.off hM ds _ t hs)
  | .dict _, _, t, _ => nomatch t
theorem DmAll.off {M : Addr → Prop} {H : Hp} (hM : ∀ a, M a → ∀ xs, H a ≠ some (.tup xs)) : ∀ (ds : List PyData) (vs : List V), tupos ds = true → DmAll N0 H vs ds → DmAll M H vs ds
  | [], _, _, h => by cases h; exact .nil
  | d :: ds, _, t, h => by
    have t2 : tupo d = true ∧ tupos ds = true := by
      have := t
      unfold tupos at this
      simpa using this
    cases h with
    | cons h1 h2 => exact .cons (Dm.off hM d _ t2.1 h1) (DmAll.off hM ds _ t2.2 h2)
end
theorem tupos_map {α : Type} {f : α → PyData} (h : ∀ a, tupo (f a) = true) : ∀ as : List α, tupos (as.map f) = true
  | [] => rfl
  | a :: as => by
    show (tupo (f a) && tupos (as.map f)) = true
    rw [h a, tupos_map h as]
    rfl
theorem Dm.on {M : Addr → Prop} {H : Hp} {v : V} {d : PyData} (h : Dm M H v d) : Dm N0 H v d := Dm.mv (fun _ _ e _ => ⟨e, id⟩) d v h
theorem DmAll.on {M : Addr → Prop} {H : Hp} {vs : List V} {ds : List PyData} (h : DmAll M H vs ds) : DmAll N0 H vs ds := DmAll.mv (fun _ _ e _ => ⟨e, id⟩) ds vs h
theorem Dm.same {M : Addr → Prop} {H H' : Hp} {v : V} {d : PyData} (h : Dm M H v d) (s : Same H H') : Dm M H' v d := Dm.mv (fun a o e m => ⟨s a o e, m⟩) d v h
theorem DmAll.same {M : Addr → Prop} {H H' : Hp} {vs : List V} {ds : List PyData} (h : DmAll M H vs ds) (s : Same H H') : DmAll M H' vs ds := DmAll.mv (fun a o e m => ⟨s a o e, m⟩) ds vs h
theorem DmAll.at_ {M : Addr → Prop} {H : Hp} : ∀ {ds : List PyData} {vs : List V} {i : Nat} {d : PyData}, DmAll M H vs ds → ds[i]? = some d → ∃ v, vs[i]? = some v ∧ Dm M H v d
  | [], _, _, _, _, h => nomatch h
  | e :: ds, vs, i, d, x, h => by
    cases x with
    | cons h1 h2 =>
      cases i with
      | zero => cases h; exact ⟨_, rfl, h1⟩
      | succ i =>
        obtain ⟨u, z1, z2⟩ := DmAll.at_ (i := i) (d := d) h2 h
        exact ⟨u, z1, z2⟩
theorem DmAll.of_at {M : Addr → Prop} {H : Hp} {vs : List V} {ds : List PyData} {i : Nat} {v : V} (h : DmAll M H vs ds) (e : vs[i]? = some v) : ∃ d, ds[i]? = some d ∧ Dm M H v d := by
  have hl := h.len
  have hi := (List.getElem?_eq_some_iff.mp e).1
  obtain ⟨v', e2, h2⟩ := h.at_ (List.getElem?_eq_getElem (hl ▸ hi))
  rw [e] at e2
  cases e2
  exact ⟨_, List.getElem?_eq_getElem (hl ▸ hi), h2⟩
/-- the list at D has these data, of which nothing is D -/
def Has (H : Hp) (D : Addr) (ds : List PyData) : Prop := ∃ ys, H D = some (.lst ys) ∧ DmAll (· = D) H ys ds
theorem Has.nil {H : Hp} {D : Addr} : Has (upd H D (.lst [])) D [] := ⟨[], upd_same, .nil⟩
theorem Has.same {H H' : Hp} {D : Addr} {ds : List PyData} (h : Has H D ds) (s : Same H H') : Has H' D ds := let ⟨ys, e, h⟩ := h; ⟨ys, s _ _ e, h.same s⟩
theorem Has.add {H H4 : Hp} {D : Addr} {ds : List PyData} {y : V} {d : PyData} (h : Has H D ds) (s : Same H H4) (hy : Dm N0 H4 y d) (t : tupo d = true) (n : ds.length < 1000000) : ∃ acc, H4 D = some (.lst acc) ∧ acc.length < sizeLine ∧ Has (upd H4 D (.lst (acc ++ [y]))) D (ds ++ [d]) := by
  obtain ⟨ys, e, h⟩ := h.same s
  refine ⟨ys, e, by rw [h.len, sizeLine_eq]; omega, _, upd_same, DmAll.app (DmAll.mv (fun a o q m => ⟨(upd_ne m).trans q, m⟩) _ _ h) (.cons (Dm.mv (fun a o q m => ⟨(upd_ne m).trans q, m⟩) _ _ (Dm.off (fun a z xs q => ?_) d y t hy)) .nil)⟩
  rw [z, e] at q
  cases q
theorem Same.put {H1 H4 : Hp} {D : Addr} {o : HO} (hD : H1 D = none) (s : Same H1 H4) : Same H1 (upd H4 D o) := fun b u e => (upd_ne (ne_of_none e hD)).trans (s b u e)
section
variable {J : It} {G : Hp → Prop} {Y : Nat → Hp → V → Hp → Prop} {α : Type}
/-- [e for x in xs if t]: f a for those items a that are kept -/
theorem lcA {as : List α} (w : Walk J as.length G Y) {g : TG} {tt : TT} {te : TE} {vs : List Nat} {σ : L2.St} {H1 : Hp} {D : Addr} {Qd : Hp → Prop} (f : α → PyData) (keep : α → Bool) (hG : ∀ H', Same H1 H' → G H') (hn : as.length ≤ 1000000) (hD : H1 D = none)
    (tp : ∀ a, tupo (f a) = true)
    (turn : ∀ (Nx : Hp → Prop) i a x H H', as[i]? = some a → Same H1 H → Y i H x H' → (∀ y H4, keep a = true → Same H H4 → Dm N0 H4 y (f a) → ∃ acc, H4 D = some (.lst acc) ∧ acc.length < sizeLine ∧ Nx (upd H4 D (.lst (acc ++ [y])))) → (∀ H4, keep a = false → Same H H4 → Nx H4) →
      g x (wipe σ vs) H' fun σ2 H2 => wipe σ2 vs = wipe σ vs ∧ tt σ2 H2 fun b H3 => if b = true then te σ2 H3 fun y H4 => ∃ acc, H4 D = some (.lst acc) ∧ acc.length < sizeLine ∧ Nx (upd H4 D (.lst (acc ++ [y]))) else Nx H3)
    (fin : ∀ H' ys, Same H1 H' → H' D = some (.lst ys) → DmAll N0 H' ys ((as.filter keep).map f) → Qd H') :
    ∃ W : Nat → Nat → Hp → Prop, (∃ m, W 0 m (upd H1 D (.lst []))) ∧ ∀ i m H, W i m H →
      (J.stop i H ∧ Qd H) ∨ (J.go i H ∧ ∃ Nx : Hp → Prop, (∀ H', Nx H' → ∃ m', m' < m ∧ W (i + 1) m' H') ∧ ∀ x H', J.yld i H x H' → g x (wipe σ vs) H' fun σ2 H2 => wipe σ2 vs = wipe σ vs ∧ tt σ2 H2 fun b H3 =>
        if b = true then te σ2 H3 fun y H4 => ∃ acc, H4 D = some (.lst acc) ∧ acc.length < sizeLine ∧ Nx (upd H4 D (.lst (acc ++ [y]))) else Nx H3) := by
  refine lc_it w (fun i H => Same H1 H ∧ Has H D (((as.take i).filter keep).map f)) ⟨same_new hD, Has.nil⟩ (fun i H _ p => hG H p.1) (fun i x H H' hi p y => ?_) fun H p => ?_
  · obtain ⟨a, ha⟩ : ∃ a, as[i]? = some a := ⟨_, List.getElem?_eq_getElem hi⟩
    have e : as.take (i + 1) = as.take i ++ [a] := by rw [List.take_add_one, ha]; rfl
    refine turn _ i a x H H' ha p.1 y (fun y2 H4 k s d => ?_) fun H4 k s => ?_
    · have hl : (((as.take i).filter keep).map f).length < 1000000 := by
        rw [List.length_map]
        have := List.length_filter_le keep (as.take i)
        have := List.length_take_le i as
        omega
      obtain ⟨acc, a1, a2, a3⟩ := p.2.add s d (tp a) hl
      refine ⟨acc, a1, a2, Same.put hD (p.1.trans s), ?_⟩
      rw [e, List.filter_append, List.map_append]
      simpa [List.filter, k] using a3
    · refine ⟨p.1.trans s, ?_⟩
      rw [e, List.filter_append, List.map_append]
      simpa [List.filter, k] using p.2.same s
  · obtain ⟨s, ys, e, h⟩ := p
    rw [List.take_length] at h
    exact fin H ys s e h.on
/-- the inner walk of [e for x in xs for y in ys if t] -/
theorem inA {bs : List α} (w : Walk J bs.length G Y) {g1 : TG} {tt1 : TT} {te : TE} {vs1 : List Nat} {σ2 : L2.St} {H0 H1 : Hp} {D : Addr} {Nx : Hp → Prop} (f : α → PyData) (keep : α → Bool) (pre : List PyData) (hG : ∀ H', (∀ a o, a ≠ D → H1 a = some o → H' a = some o) → G H') (hn : pre.length + bs.length ≤ 1000000) (hD : H0 D = none)
    (tp : ∀ a, tupo (f a) = true) (h0 : Same H0 H1) (h1 : Has H1 D pre)
    (turn : ∀ (N1 : Hp → Prop) i a x H H', bs[i]? = some a → Same H0 H → (∀ a o, a ≠ D → H1 a = some o → H a = some o) → Y i H x H' → (∀ y H4, keep a = true → Same H H4 → Dm N0 H4 y (f a) → ∃ acc, H4 D = some (.lst acc) ∧ acc.length < sizeLine ∧ N1 (upd H4 D (.lst (acc ++ [y])))) → (∀ H4, keep a = false → Same H H4 → N1 H4) →
      g1 x (wipe σ2 vs1) H' fun σ3 H5 => wipe σ3 vs1 = wipe σ2 vs1 ∧ tt1 σ3 H5 fun b H6 => if b = true then te σ3 H6 fun y H7 => ∃ acc, H7 D = some (.lst acc) ∧ acc.length < sizeLine ∧ N1 (upd H7 D (.lst (acc ++ [y]))) else N1 H6)
    (fin : ∀ H', Same H0 H' → Has H' D (pre ++ (bs.filter keep).map f) → Nx H') :
    ∃ W1 : Nat → Nat → Hp → Prop, (∃ m, W1 0 m H1) ∧ ∀ j k H, W1 j k H →
      (J.stop j H ∧ Nx H) ∨ (J.go j H ∧ ∃ Nx1 : Hp → Prop, (∀ H', Nx1 H' → ∃ k', k' < k ∧ W1 (j + 1) k' H') ∧ ∀ x H', J.yld j H x H' → g1 x (wipe σ2 vs1) H' fun σ3 H5 => wipe σ3 vs1 = wipe σ2 vs1 ∧ tt1 σ3 H5 fun b H6 =>
        if b = true then te σ3 H6 fun y H7 => ∃ acc, H7 D = some (.lst acc) ∧ acc.length < sizeLine ∧ Nx1 (upd H7 D (.lst (acc ++ [y]))) else Nx1 H6) := by
  let Pv : Nat → Hp → Prop := fun i H => (Same H0 H ∧ ∀ a o, a ≠ D → H1 a = some o → H a = some o) ∧ Has H D (pre ++ ((bs.take i).filter keep).map f)
  refine ⟨fun i m H => m = bs.length - i ∧ i ≤ bs.length ∧ Pv i H, ⟨bs.length, by simp, Nat.zero_le _, ⟨h0, fun _ _ _ e => e⟩, by simpa using h1⟩, ?_⟩
  rintro i m H ⟨rfl, hi, p⟩
  have q := hG H p.1.2
  by_cases hlt : i < bs.length
  · refine .inr ⟨w.goes i H hlt q, Pv (i + 1), fun H' p' => ⟨bs.length - (i + 1), by omega, rfl, hlt, p'⟩, fun x H' y => ?_⟩
    obtain ⟨a, ha⟩ : ∃ a, bs[i]? = some a := ⟨_, List.getElem?_eq_getElem hlt⟩
    have e : bs.take (i + 1) = bs.take i ++ [a] := by rw [List.take_add_one, ha]; rfl
    refine turn _ i a x H H' ha p.1.1 p.1.2 (w.yields i H x H' hlt q y) (fun y2 H4 k s d => ?_) fun H4 k s => ?_
    · have hl : (pre ++ ((bs.take i).filter keep).map f).length < 1000000 := by
        rw [List.length_append, List.length_map]
        have := List.length_filter_le keep (bs.take i)
        have := List.length_take_le i bs
        omega
      obtain ⟨acc, a1, a2, a3⟩ := p.2.add s d (tp a) hl
      refine ⟨acc, a1, a2, ⟨Same.put hD (p.1.1.trans s), fun b o nb e => (upd_ne nb).trans (s b o (p.1.2 b o nb e))⟩, ?_⟩
      rw [e, List.filter_append, List.map_append]
      simpa [List.filter, k] using a3
    · refine ⟨⟨p.1.1.trans s, fun b o nb e => s b o (p.1.2 b o nb e)⟩, ?_⟩
      rw [e, List.filter_append, List.map_append]
      simpa [List.filter, k] using p.2.same s
  · have e : i = bs.length := by omega
    subst e
    refine .inl ⟨w.stops H q, fin H p.1.1 ?_⟩
    have := p.2
    rwa [List.take_length] at this
end
end Rw
set_option Elab.async false
set_option linter.all false
set_option maxRecDepth 100000
set_option maxHeartbeats 4000000
/-! own layer: what is a whole number, a sequence -/
namespace Rw
open PySem PySem.Spec PyProof.Rows L2
theorem _root_.L2.TyX.same {K : PySem.W.Frag} {H H' : Hp} {v : V} {t : Value} (h : TyX K H v t) (s2 : Same H H') : TyX K H' v t := by
  cases h with
  | base b =>
    cases b with
    | lst e => exact .base (.lst (s2 _ _ e))
    | frz e => exact .base (.frz (s2 _ _ e))
    | tup e => exact .base (.tup (s2 _ _ e))
    | dK e => exact .base (.dK (s2 _ _ e))
    | dT e => exact .base (.dT (s2 _ _ e))
    | ins e cl ha hn htk hm => exact .base (.ins (s2 _ _ e) cl ha hn htk hm)
    | _ => exact .base (by constructor)
  | byt b => exact .byt b
  | set e => exact .set (s2 _ _ e)
  | kList e c => exact .kList e c
  | kTuple e c => exact .kTuple e c
  | kDict e c => exact .kDict e c
  | fTuple e => exact .fTuple (s2 _ _ e)
  | fDict e => exact .fDict (s2 _ _ e)
def isI : V → Bool | .int _ => true | .bl _ => true | _ => false
def isB : V → Bool | .bl _ => true | _ => false
/-- what isinstance(v, int), isinstance(v, bool) say -/
def Kd (K : PySem.W.Frag) (H : Hp) (v : V) : Prop := ∃ t, TyX K H v t ∧ PySem.W.kitOne K t (.type "int") = some (isI v) ∧ PySem.W.kitOne K t (.type "bool") = some (isB v)
def whole (v : V) (m : Int) : Bool := match v with | .int i => decide (m ≤ i) | _ => false
def spIsInt (K : PySem.W.Frag) : Sp := fun vs H Q _ => ∃ v m, vs = [v, .int m] ∧ Kd K H v ∧ Q (.bl (whole v m)) H
def spIsNum (K : PySem.W.Frag) : Sp := fun vs H Q _ => ∃ v, vs = [v] ∧ Kd K H v ∧ Q (.bl (whole v 0)) H
def spIsSeq (K : PySem.W.Frag) : Sp := fun vs H Q _ => ∃ v t b, vs = [v] ∧ TyX K H v t ∧ PySem.W.kitAny K t [.type "list", .type "tuple"] = some b ∧ ∀ H', Same H H' → Q (.bl b) H'

theorem kd_int {K : PySem.W.Frag} {H : Hp} (i : Int) : Kd K H (.int i) := ⟨.type "int", .base (.int i), kit_ty (r := true) (by decide +kernel), kit_ty (r := false) (by decide +kernel)⟩
theorem kit_list {K : PySem.W.Frag} : PySem.W.kitAny K (.type "list") [.type "list", .type "tuple"] = some true := kitAny_cons (kit_ty (b := "list") (r := true) (by decide +kernel)) (fun z => nomatch z) fun _ => rfl
theorem kit_tuple {K : PySem.W.Frag} : PySem.W.kitAny K (.type "tuple") [.type "list", .type "tuple"] = some true := kitAny_cons (kit_ty (b := "list") (r := false) (by decide +kernel)) (fun _ => kitAny_cons (kit_ty (b := "tuple") (r := true) (by decide +kernel)) (fun z => nomatch z) fun _ => rfl) fun z => nomatch z
end Rw
namespace Rw
open PySem PySem.Spec PyProof.Rows L2
theorem bools_of {M : Addr → Prop} {H : Hp} : ∀ {bs : List Bool} {ys : List V}, DmAll M H ys (bs.map PyData.bool) → ys = bs.map V.bl
  | [], _, h => by cases h; rfl
  | b :: bs, _, h => by
    cases h with
    | cons h1 h2 => cases h1; rw [bools_of h2]; rfl
theorem ints_of {M : Addr → Prop} {H : Hp} : ∀ {ns : List Int} {ys : List V}, DmAll M H ys (ns.map PyData.int) → ys = ns.map V.int
  | [], _, h => by cases h; rfl
  | b :: bs, _, h => by
    cases h with
    | cons h1 h2 => cases h1; rw [ints_of h2]; rfl
def lettersS : Str := "abcdefghijklmnopqrstuvwxyz"
/-- 1 to 4 letters -/
def nmB (x : Str) : Bool := decide (1 ≤ (x.length : Int) ∧ (x.length : Int) ≤ 4) && x.cps.toList.all fun c => decide (c ∈ lettersS.cps.toList)
def spName : Sp := fun vs H Q _ => ∃ x : Str, vs = [.str x] ∧ x.length ≤ 1000 ∧ ∀ H', Same H H' → Q (.bl (nmB x)) H'
end Rw
namespace Rw
open PySem PySem.Spec PyProof.Rows L2
/-- a match: day, side, side -/
abbrev Mt3 := Int × Str × Str
def mD (m : Mt3) : PyData := .tuple [.int m.1, .str m.2.1, .str m.2.2]
def okM (D : Int) (m : Mt3) : Bool := decide (0 ≤ m.1) && decide (m.1 < D) && nmB m.2.1 && nmB m.2.2
def spMatch : Sp := fun vs H Q _ => ∃ (v : V) (D : Int) (m : Mt3), vs = [v, .int D] ∧ Dm N0 H v (mD m) ∧ m.2.1.length ≤ 1000 ∧ m.2.2.length ≤ 1000 ∧ ∀ H', Same H H' → Q (.bl (okM D m)) H'
theorem mD_inv {M : Addr → Prop} {H : Hp} {v : V} {m : Mt3} (h : Dm M H v (mD m)) : ∃ a, v = .ref a ∧ H a = some (.tup [.int m.1, .str m.2.1, .str m.2.2]) := by
  unfold mD at h
  cases h with
  | tup _ e hs =>
    cases hs with
    | cons h1 hs =>
      cases h1
      cases hs with
      | cons h1 hs =>
        cases h1
        cases hs with
        | cons h1 hs =>
          cases h1
          cases hs
          exact ⟨_, rfl, e⟩
theorem mD_of {H : Hp} {a : Addr} {m : Mt3} (h : H a = some (.tup [.int m.1, .str m.2.1, .str m.2.2])) : Dm N0 H (.ref a) (mD m) := .tup id h (.cons (.int _) (.cons (.str _) (.cons (.str _) .nil)))
end Rw
namespace Rw
open PySem PySem.Spec PyProof.Rows L2
theorem nq {α : Type} [DecidableEq α] {a b : α} {p : Prop} (z : (!decide (a = b)) = true) (e : a = b) : p := by subst e; simp at z
/-- b && .. as it is read -/
theorem yn {b : Bool} {p q : Prop} (hp : b = true → p) (hq : b = false → q) : if b = true then p else q := by
  cases b with
  | true => exact hp rfl
  | false => exact hq rfl
end Rw
namespace Rw
open PySem PySem.Spec PyProof.Rows L2
/-- the outer walk of a comprehension with two fors: F a is what item a adds -/
theorem lcO {α : Type} {J : It} {G : Hp → Prop} {Y : Nat → Hp → V → Hp → Prop} {as : List α} (w : Walk J as.length G Y) {B : V → Hp → (Hp → Prop) → Prop} {H1 : Hp} {D : Addr} {Qd : Hp → Prop} (F : α → List PyData) (hG : ∀ H', Same H1 H' → G H') (hD : H1 D = none)
    (turn : ∀ (Nx : Hp → Prop) i a x H H', as[i]? = some a → Same H1 H → Has H D ((as.take i).flatMap F) → Y i H x H' → (∀ H4, Same H1 H4 → Has H4 D ((as.take i).flatMap F ++ F a) → Nx H4) → B x H' Nx)
    (fin : ∀ H' ys, Same H1 H' → H' D = some (.lst ys) → DmAll N0 H' ys (as.flatMap F) → Qd H') :
    ∃ W : Nat → Nat → Hp → Prop, (∃ m, W 0 m (upd H1 D (.lst []))) ∧ ∀ i m H, W i m H →
      (J.stop i H ∧ Qd H) ∨ (J.go i H ∧ ∃ Nx : Hp → Prop, (∀ H', Nx H' → ∃ m', m' < m ∧ W (i + 1) m' H') ∧ ∀ x H', J.yld i H x H' → B x H' Nx) := by
  let Pv : Nat → Hp → Prop := fun i H => Same H1 H ∧ Has H D ((as.take i).flatMap F)
  refine ⟨fun i m H => m = as.length - i ∧ i ≤ as.length ∧ Pv i H, ⟨as.length, by simp, Nat.zero_le _, same_new hD, Has.nil⟩, ?_⟩
  rintro i m H ⟨rfl, hi, p⟩
  have q := hG H p.1
  by_cases hlt : i < as.length
  · refine .inr ⟨w.goes i H hlt q, Pv (i + 1), fun H' p' => ⟨as.length - (i + 1), by omega, rfl, hlt, p'⟩, fun x H' y => ?_⟩
    obtain ⟨a, ha⟩ : ∃ a, as[i]? = some a := ⟨_, List.getElem?_eq_getElem hlt⟩
    refine turn _ i a x H H' ha p.1 p.2 (w.yields i H x H' hlt q y) fun H4 s h => ⟨s, ?_⟩
    rw [List.take_add_one, ha, List.flatMap_append]
    simpa using h
  · have e : i = as.length := by omega
    subst e
    obtain ⟨s, ys, e, h⟩ := p
    rw [List.take_length] at h
    exact .inl ⟨w.stops H q, fin H ys s e h.on⟩
/-- where each side is busy -/
def plcK (m : Mt3) : List (List Key) := [[.inl m.1, .inr m.2.1], [.inl m.1, .inr m.2.2]]
def places (ms : List Mt3) : List (List Key) := ms.flatMap plcK
def areB (D : Int) (ms : List Mt3) : Bool := ms.all (okM D) && decide ((places ms).Nodup)
def spAre (K : PySem.W.Frag) : Sp := fun vs H Q _ => ∃ (l : Addr) (D : Int) (xs : List V) (ms : List Mt3), vs = [.ref l, .int D] ∧ (SqL K H l xs ∨ SqT K H l xs) ∧ DmAll N0 H xs (ms.map mD) ∧ ms.length ≤ 30 ∧ (∀ m ∈ ms, m.2.1.length ≤ 1000 ∧ m.2.2.length ≤ 1000) ∧
  ∀ H', Same H H' → Q (.bl (areB D ms)) H'
theorem sqt_same {K : PySem.W.Frag} {H H' : Hp} {a : Addr} {xs : List V} (s2 : Same H H') (h : SqT K H a xs) : SqT K H' a xs := by
  rcases h with (h | ⟨ob, h⟩) | h
  · exact .inl (.inl (s2 _ _ h))
  · exact .inl (.inr ⟨ob, s2 _ _ h⟩)
  · exact .inr h
end Rw
namespace Rw
open PySem PySem.Spec PyProof.Rows L2
/-- a list or a tuple that is walked -/
theorem pi_either {X : Cx} {tg l : Expr} {w1 w2 : TI} (h1 : PI X tg l w1) (h2 : PI X tg l w2) : PI X tg l (fun σ H R => w1 σ H R ∨ w2 σ H R) := by
  constructor
  intro pins s σ H R I h
  exact h.elim (h1.run pins s σ H R I) (h2.run pins s σ H R I)
end Rw
namespace Rw
open PySem PySem.Spec PyProof.Rows L2
theorem ty_list {K : PySem.W.Frag} {H : Hp} {a : Addr} {xs : List V} (h : SqL K H a xs) : TyX K H (.ref a) (.type "list") := by
  rcases h with (h | ⟨o, h⟩) | ⟨o, its, n, hk, hc, _⟩
  · exact .base (.lst h)
  · exact .base (.frz h)
  · exact .kList hk hc
theorem ty_tup {K : PySem.W.Frag} {H : Hp} {a : Addr} {xs : List V} (h : SqT K H a xs) : TyX K H (.ref a) (.type "tuple") := by
  rcases h with (h | ⟨o, h⟩) | ⟨o, its, n, hk, hc, _⟩
  · exact .base (.tup h)
  · exact .fTuple h
  · exact .kTuple hk hc
theorem ty_seq {K : PySem.W.Frag} {H : Hp} {a : Addr} {xs : List V} (h : SqL K H a xs ∨ SqT K H a xs) : ∃ t, TyX K H (.ref a) t ∧ PySem.W.kitAny K t [.type "list", .type "tuple"] = some true :=
  h.elim (fun h => ⟨_, ty_list h, kit_list⟩) fun h => ⟨_, ty_tup h, kit_tuple⟩
def keyD : Key → PyData
  | .inl i => .int i
  | .inr x => .str x
def kD (c : List Key) : PyData := .tuple (c.map keyD)
theorem keys_in {M : Addr → Prop} {H : Hp} : ∀ {c : List Key} {vs : List V}, DmAll M H vs (c.map keyD) → vs = c.map kV
  | [], _, h => by cases h; rfl
  | .inl i :: c, _, h => by
    cases h with
    | cons h1 h2 => cases h1; rw [keys_in h2]; rfl
  | .inr i :: c, _, h => by
    cases h with
    | cons h1 h2 => cases h1; rw [keys_in h2]; rfl
theorem prs_of {M : Addr → Prop} {H : Hp} : ∀ {cs : List (List Key)} {ys : List V}, DmAll M H ys (cs.map kD) → ∃ ks : List Pr, ys = (ks.map fun p => V.ref p.1) ∧ ks.map Prod.snd = cs ∧ ∀ p ∈ ks, H p.1 = some (.tup (p.2.map kV))
  | [], _, h => by cases h; exact ⟨[], rfl, rfl, fun _ z => nomatch z⟩
  | c :: cs, _, h => by
    cases h with
    | cons h1 h2 =>
      unfold kD at h1
      cases h1 with
      | @tup a xs _ _ e hs =>
        obtain ⟨ks, rfl, rfl, h3⟩ := prs_of h2
        refine ⟨(a, c) :: ks, rfl, rfl, fun p hp => ?_⟩
        rcases List.mem_cons.mp hp with z | z
        · rw [z]
          show H a = some (.tup (c.map kV))
          rw [← keys_in hs]
          exact e
        · exact h3 p z
theorem tupo_kD (c : List Key) : tupo (kD c) = true := tupos_map (fun k => by cases k <;> rfl) c
end Rw
namespace Rw
open PySem PySem.Spec PyProof.Rows L2
theorem it_seq {K : PySem.W.Frag} {te : TE} {σ : L2.St} {H : Hp} {R : It → Hp → Prop} {l : Addr} {xs : List V} (hs : SqL K H l xs ∨ SqT K H l xs) (ht : ∀ Q : VK, Q (.ref l) H → te σ H Q)
    (k : ∀ J G, Walk J xs.length G (YAt xs) → (∀ H', Same H H' → G H') → R J H) : iList K te σ H R ∨ iTup K te σ H R :=
  hs.elim (fun h => .inl (ht _ ⟨l, rfl, ⟨_, h⟩, k _ _ walk_list fun _ s => s.seq h⟩)) fun h => .inr (ht _ ⟨l, rfl, ⟨_, h⟩, k _ _ walk_tup fun _ s => sqt_same s h⟩)
theorem seq_same {K : PySem.W.Frag} {H H' : Hp} {a : Addr} {xs : List V} (s : Same H H') (h : SqL K H a xs ∨ SqT K H a xs) : SqL K H' a xs ∨ SqT K H' a xs := h.imp s.seq (sqt_same s)
end Rw
namespace Rw
open PySem PySem.Spec PyProof.Rows L2
/-- only lists may change -/
def Ls (M : Addr → Prop) (H : Hp) : Prop := ∀ a, M a → ∃ xs, H a = some (.lst xs)
theorem SqT.kp {K : PySem.W.Frag} {M : Addr → Prop} {H H' : Hp} {t : Addr} {xs : List V} (h : SqT K H t xs) (hM : Ls M H) (k : Kp M H H') : SqT K H' t xs := by
  rcases h with (h | ⟨o, h⟩) | h
  · exact .inl (.inl (k _ _ h fun z => by obtain ⟨_, e⟩ := hM _ z; rw [h] at e; cases e))
  · exact .inl (.inr ⟨o, k _ _ h fun z => by obtain ⟨_, e⟩ := hM _ z; rw [h] at e; cases e⟩)
  · exact .inr h
/-- a week at w -/
def WkO (K : PySem.W.Frag) (C : Addr) (H : Hp) (w : Addr) (D : Int) (ms : List Mt3) : Prop := ∃ dx t xs, H w = some (.ins C dx [("days", .int D), ("matches", .ref t)]) ∧ SqT K H t xs ∧ DmAll N0 H xs (ms.map mD)
theorem tupos_mD (ms : List Mt3) : tupos (ms.map mD) = true := tupos_map (fun _ => rfl) ms
theorem DmAll.kpl {M : Addr → Prop} {H H' : Hp} {xs : List V} {ds : List PyData} (h : DmAll N0 H xs ds) (t : tupos ds = true) (hM : Ls M H) (k : Kp M H H') : DmAll N0 H' xs ds :=
  (DmAll.mv (fun a o e m => ⟨k a o e m, id⟩) ds xs (DmAll.off (M := M) (fun a z ys e => by obtain ⟨_, q⟩ := hM a z; rw [e] at q; cases q) ds xs t h))
theorem Dm.kpl {M : Addr → Prop} {H H' : Hp} {v : V} {d : PyData} (h : Dm N0 H v d) (t : tupo d = true) (hM : Ls M H) (k : Kp M H H') : Dm N0 H' v d :=
  (Dm.mv (fun a o e m => ⟨k a o e m, id⟩) d v (Dm.off (M := M) (fun a z ys e => by obtain ⟨_, q⟩ := hM a z; rw [e] at q; cases q) d v t h))
section
variable {K : PySem.W.Frag} {C w : Addr} {H H' : Hp} {D : Int} {ms : List Mt3} {M : Addr → Prop}
theorem WkO.kp (h : WkO K C H w D ms) (hM : Ls M H) (k : Kp M H H') : WkO K C H' w D ms := by
  obtain ⟨dx, t, xs, h1, h2, h3⟩ := h
  exact ⟨dx, t, xs, k _ _ h1 (fun z => by obtain ⟨_, e⟩ := hM _ z; rw [h1] at e; cases e), SqT.kp h2 hM k, h3.kpl (tupos_mD ms) hM k⟩
theorem WkO.same (h : WkO K C H w D ms) (s : Same H H') : WkO K C H' w D ms := by
  obtain ⟨dx, t, xs, h1, h2, h3⟩ := h
  exact ⟨dx, t, xs, s _ _ h1, sqt_same s h2, h3.same s⟩
end
/-- the making of a week that is right -/
def spWeekI (K : PySem.W.Frag) (C : Addr) : Sp := fun vs H Q _ => ∃ (a dx l : Addr) (D : Int) (xs : List V) (ms : List Mt3), vs = [.ref a, .int D, .ref l] ∧ H a = some (.ins C dx []) ∧ (SqL K H l xs ∨ SqT K H l xs) ∧ DmAll N0 H xs (ms.map mD) ∧ ms.length ≤ 30 ∧
  (∀ m ∈ ms, m.2.1.length ≤ 1000 ∧ m.2.2.length ≤ 1000) ∧ 1 ≤ D ∧ areB D ms = true ∧ ∀ H', Kp (· = a) H H' → WkO K C H' a D ms → Q .non H'
end Rw
namespace Rw
open PySem PySem.Spec PyProof.Rows L2
section
variable {K : PySem.W.Frag} {H : Hp} {a l C dx : Addr} {fs : List (Str × V)} {o : HO} {xs : List V}
theorem sql_ins (h : SqL K H l xs) (e : H a = some (.ins C dx fs)) : SqL K (upd H a o) l xs := by
  have ne : ∀ {u}, H l = some u → (∀ C dx fs, u ≠ .ins C dx fs) → l ≠ a := fun e2 n z => by rw [z, e] at e2; cases e2; exact n _ _ _ rfl
  rcases h with (h | ⟨o, h⟩) | h
  · exact .inl (.inl ((upd_ne (ne h fun _ _ _ z => nomatch z)).trans h))
  · exact .inl (.inr ⟨o, (upd_ne (ne h fun _ _ _ z => nomatch z)).trans h⟩)
  · exact .inr h
theorem sqt_ins (h : SqT K H l xs) (e : H a = some (.ins C dx fs)) : SqT K (upd H a o) l xs := by
  have ne : ∀ {u}, H l = some u → (∀ C dx fs, u ≠ .ins C dx fs) → l ≠ a := fun e2 n z => by rw [z, e] at e2; cases e2; exact n _ _ _ rfl
  rcases h with (h | ⟨o, h⟩) | h
  · exact .inl (.inl ((upd_ne (ne h fun _ _ _ z => nomatch z)).trans h))
  · exact .inl (.inr ⟨o, (upd_ne (ne h fun _ _ _ z => nomatch z)).trans h⟩)
  · exact .inr h
theorem seq_ins (h : SqL K H l xs ∨ SqT K H l xs) (e : H a = some (.ins C dx fs)) : SqL K (upd H a o) l xs ∨ SqT K (upd H a o) l xs := h.imp (fun h => sql_ins h e) fun h => sqt_ins h e
theorem dm_ins {ds : List PyData} (h : DmAll N0 H xs ds) (t : tupos ds = true) (e : H a = some (.ins C dx fs)) : DmAll N0 (upd H a o) xs ds :=
  DmAll.mv (M := (· = a)) (fun b u q m => ⟨(upd_ne m).trans q, id⟩) ds xs (DmAll.off (fun b z ys q => by rw [z, e] at q; cases q) ds xs t h)
end
theorem kp_upd {H H1 : Hp} {a : Addr} {o : HO} (k : Kp (· = a) H H1) : Kp (· = a) H (upd H1 a o) := fun b u e n => (upd_ne n).trans (k b u e n)
end Rw
namespace Rw
open PySem PySem.Spec PyProof.Rows L2
/-- the matches on day n -/
def onL (D : Int) (ms : List Mt3) (n : Int) : List Int := (ms.zipIdx.filter fun p => decide (p.1.1 = n.fmod D)).map fun p => (p.2 : Int)
def spOn (K : PySem.W.Frag) (C : Addr) : Sp := fun vs H Q _ => ∃ (a : Addr) (D : Int) (ms : List Mt3) (n : Int), vs = [.ref a, .int n] ∧ WkO K C H a D ms ∧ 1 ≤ D ∧ D < 1073741824 ∧ ms.length ≤ 30 ∧
  ∀ t H', Same H H' → H' t = some (.tup ((onL D ms n).map V.int)) → Q (.ref t) H'
end Rw
namespace Rw
open PySem PySem.Spec PyProof.Rows L2
theorem ix_tupK {X : Cx} {K : PySem.W.Frag} (h : X.K = K) : IxR X (rIxT K) := by subst h; exact ix_tup
theorem in_seqK {X : Cx} {K : PySem.W.Frag} (h : X.K = K) : OpR X (compareOp .In) (rIn K false) := by subst h; exact op_in_seq
end Rw
namespace Rw
open PySem PySem.Spec PyProof.Rows L2
def ordS (f : Bool) : Str := if f then "first" else "last"
/-- a rule at r -/
def RuO (K : PySem.W.Frag) (C : Addr) (H : Hp) (r : Addr) (g wi : Int) (ls : List Int) (f : Bool) : Prop := ∃ dx t, H r = some (.ins C dx [("gap", .int g), ("window", .int wi), ("let", .ref t), ("order", .str (ordS f))]) ∧ SqT K H t (ls.map V.int)
section
variable {K : PySem.W.Frag} {C r : Addr} {H H' : Hp} {g wi : Int} {ls : List Int} {f : Bool} {M : Addr → Prop}
theorem RuO.kp (h : RuO K C H r g wi ls f) (hM : Ls M H) (k : Kp M H H') : RuO K C H' r g wi ls f := by
  obtain ⟨dx, t, h1, h2⟩ := h
  exact ⟨dx, t, k _ _ h1 (fun z => by obtain ⟨_, e⟩ := hM _ z; rw [h1] at e; cases e), SqT.kp h2 hM k⟩
theorem RuO.same (h : RuO K C H r g wi ls f) (s : Same H H') : RuO K C H' r g wi ls f := by
  obtain ⟨dx, t, h1, h2⟩ := h
  exact ⟨dx, t, s _ _ h1, sqt_same s h2⟩
end
def spRuleI (K : PySem.W.Frag) (C : Addr) : Sp := fun vs H Q _ => ∃ (a dx l : Addr) (g wi : Int) (ns : List Int) (f : Bool), vs = [.ref a, .int g, .int wi, .ref l, .str (ordS f)] ∧ H a = some (.ins C dx []) ∧ (SqL K H l (ns.map V.int) ∨ SqT K H l (ns.map V.int)) ∧ 1 ≤ g ∧ g ≤ 2 ∧ 1 ≤ wi ∧ ns.length ≤ 60 ∧
  (∀ n ∈ ns, 0 ≤ n) ∧ ∀ H' ls, Kp (· = a) H H' → ls.Pairwise (· < ·) → (∀ k, k ∈ ls ↔ k ∈ ns) → RuO K C H' a g wi ls f → Q .non H'
end Rw
namespace Rw
open PySem PySem.Spec PyProof.Rows L2
theorem it_enum {K : PySem.W.Frag} {ta : TA} {σ : L2.St} {H : Hp} {R : It → Hp → Prop} {l : Addr} {xs : List V} (hs : SqL K H l xs ∨ SqT K H l xs) (ht : ∀ Q : List V → Hp → Prop, Q [.ref l] H → ta σ H Q)
    (k : ∀ J G, Walk J xs.length G (YPair (fun i => some (.int (i : Nat))) (fun i => xs[i]?)) → (∀ H', Same H H' → G H') → R J H) : iEnum K ta σ H R ∨ iEnumT K ta σ H R :=
  hs.elim (fun h => .inl (ht _ ⟨l, xs, rfl, h, k _ _ walk_enum fun _ s => s.seq h⟩)) fun h => .inr (ht _ ⟨l, xs, rfl, h, k _ _ walk_enumT fun _ s => sqt_same s h⟩)
def spRain (K : PySem.W.Frag) : Sp := fun vs H Q _ => ∃ (l : Addr) (bs : List Bool), vs = [.ref l] ∧ (SqL K H l (bs.map V.bl) ∨ SqT K H l (bs.map V.bl)) ∧ bs.length ≤ 1000 ∧ ∀ t H', Same H H' → SqT K H' t (bs.map V.bl) → Q (.ref t) H'
def spPlayedI (C : Addr) : Sp := fun vs H Q _ => ∃ (a dx : Addr) (x y z : V), vs = [.ref a, x, y, z] ∧ H a = some (.ins C dx []) ∧ ∀ H', Kp (· = a) H H' → H' a = some (.ins C dx [("played", x), ("lost", y), ("waiting", z)]) → Q .non H'
end Rw
namespace Rw
open PySem PySem.Spec PyProof.Rows L2
/-- a range held by a name, walked -/
def iRngV (te : TE) : TI := fun σ H R => te σ H fun x H1 => ∃ (a : Addr) (lo hi : Int), x = .ref a ∧ H1 a = some (.rng lo hi) ∧ (-(2 ^ 62) ≤ lo ∧ lo < 2 ^ 62 ∧ -(2 ^ 62) ≤ hi ∧ hi < 2 ^ 62) ∧ R (Itr lo (hi - lo).toNat) H1
theorem pi_rngV {X : Cx} {tg e : Expr} {te : TE} (he : PE X e te) : PI X tg e (iRngV te) := by
  refine ⟨fun pins s σ H R I h => ?_⟩
  refine thn (he.run pins s σ H _ I h) fun u s1 ⟨x, H1, I1, r1, q1⟩ => ?_
  obtain ⟨a, lo, hi, rfl, ha, ⟨h1, h2, h3, h4⟩, q⟩ := q1
  cases r1
  obtain ⟨t, u, v, ho⟩ := I1.hok a _ ha
  refine wpAny_pyIter_range (show IsRange s1.heap a lo hi 1 t u v from ho) (small_one h1 h2 h3 h4) ?_
  refine ⟨s1.heap.objs.size, [s1.heap.objs.size], _, _, H1, rfl, I1.kept (t' := s1.toks) fun b o e => Heap.get?_push_of_some _ e, turn_range _ lo (hi - lo).toNat, ?_, fun b hb => ?_, q⟩
  · have e1 : lo + ((0 : Nat) : Int) * 1 = lo := by simp
    have e2 : (((hi - lo).toNat : Nat) : Int) - ((0 : Nat) : Int) = Builtin.Range.rangeSize lo hi 1 := by rw [rangeSize_one]; split <;> omega
    show IsRangeIter _ _ (lo + ((0 : Nat) : Int) * 1) ((((hi - lo).toNat : Nat) : Int) - ((0 : Nat) : Int)) 1
    rw [e1, e2]
    exact Heap.get?_push_size _ rfl
  · cases (show b = s1.heap.objs.size by simpa using hb)
    exact I1.fpOk (Nat.le_refl _) (I1.hok.fresh (Nat.le_refl _))
/-- those waiting: day, own day, match -/
abbrev Wt := Int × Int × Int
def tD (t : Wt) : PyData := .tuple [.int t.1, .int t.2.1, .int t.2.2]
def pD (p : Int × Int) : PyData := .tuple [.int p.1, .int p.2]
theorem tD_inv {M : Addr → Prop} {H : Hp} {v : V} {t : Wt} (h : Dm M H v (tD t)) : ∃ a, v = .ref a ∧ H a = some (.tup [.int t.1, .int t.2.1, .int t.2.2]) := by
  unfold tD at h
  cases h with
  | tup _ e hs =>
    have z := ints_of (ns := [t.1, t.2.1, t.2.2]) hs
    rw [z] at e
    exact ⟨_, rfl, e⟩
theorem pD_inv {M : Addr → Prop} {H : Hp} {v : V} {p : Int × Int} (h : Dm M H v (pD p)) : ∃ a, v = .ref a ∧ H a = some (.tup [.int p.1, .int p.2]) := by
  unfold pD at h
  cases h with
  | tup _ e hs =>
    have z := ints_of (ns := [p.1, p.2]) hs
    rw [z] at e
    exact ⟨_, rfl, e⟩
theorem tD_of {H : Hp} {a : Addr} {t : Wt} (h : H a = some (.tup [.int t.1, .int t.2.1, .int t.2.2])) : Dm N0 H (.ref a) (tD t) := .tup id h (.cons (.int _) (.cons (.int _) (.cons (.int _) .nil)))
theorem pD_of {H : Hp} {a : Addr} {p : Int × Int} (h : H a = some (.tup [.int p.1, .int p.2])) : Dm N0 H (.ref a) (pD p) := .tup id h (.cons (.int _) (.cons (.int _) .nil))
/-- lo, lo + 1, .., hi - 1 -/
def irange (lo hi : Int) : List Int := (List.range (hi - lo).toNat).map fun (i : Nat) => lo + i
/-- the matches near -/
def nearL (D : Int) (ms : List Mt3) (g day to : Int) (wt : List Wt) : List Int :=
  (irange (max (day + 1) (to - g + 1)) (to + g)).flatMap (onL D ms) ++ (wt.filter fun t => decide (max (day + 1) (to - g + 1) ≤ t.1 ∧ t.1 < to + g)).map fun t => t.2.2
def sidesOf (ms : List Mt3) (i : Int) : List Str := match ms[i.toNat]? with
  | some m => [m.2.1, m.2.2]
  | none => []
def barL (ms : List Mt3) (m : Int) (os : List Int) : Bool := os.any fun o => (sidesOf ms o).any fun x => decide (x ∈ sidesOf ms m)
/-- numbers that a play may come by -/
def Sm (n : Int) : Prop := -1000000 ≤ n ∧ n ≤ 1000000
def spNear (K : PySem.W.Frag) (CW CR : Addr) : Sp := fun vs H Q _ => ∃ (a r l : Addr) (D : Int) (ms : List Mt3) (g wi : Int) (ls : List Int) (f : Bool) (day to : Int) (xs : List V) (wt : List Wt), vs = [.ref a, .ref r, .int day, .int to, .ref l] ∧ WkO K CW H a D ms ∧ 1 ≤ D ∧ D < 1073741824 ∧ ms.length ≤ 30 ∧
  RuO K CR H r g wi ls f ∧ 1 ≤ g ∧ g ≤ 2 ∧ Sm day ∧ Sm to ∧ SqL K H l xs ∧ DmAll N0 H xs (wt.map tD) ∧ wt.length ≤ 100000 ∧ ∀ p H', H p = none → Same H H' → H' p = some (.lst ((nearL D ms g day to wt).map V.int)) → Q (.ref p) H'
def spBar (K : PySem.W.Frag) (CW : Addr) : Sp := fun vs H Q _ => ∃ (a l : Addr) (D : Int) (ms : List Mt3) (m : Int) (os : List Int), vs = [.ref a, .int m, .ref l] ∧ WkO K CW H a D ms ∧ 0 ≤ m ∧ m < ms.length ∧ SqL K H l (os.map V.int) ∧ (∀ o ∈ os, 0 ≤ o ∧ o < ms.length) ∧ os.length ≤ 200000 ∧
  ∀ H', Same H H' → Q (.bl (barL ms m os)) H'
end Rw
namespace Rw
open PySem PySem.Spec PyProof.Rows L2
theorem sl_tupK {X : Cx} {K : PySem.W.Frag} (h : X.K = K) : SlR X (rSlT K) := by subst h; exact sl_tup
end Rw
namespace Rw
open PySem PySem.Spec PyProof.Rows L2
theorem in_strs (x : Str) : ∀ ss : List Str, inV (.str x) (ss.map V.str) = decide (x ∈ ss)
  | [] => rfl
  | s :: ss => by
    have ih := in_strs x ss
    unfold inV at ih ⊢
    rw [List.map_cons, List.any_cons, ih]
    show ((s == x) || decide (x ∈ ss)) = _
    by_cases e : x = s
    · subst e
      simp
    · have e2 : (s == x) = false := by simpa using fun z => e z.symm
      rw [e2]
      simp [e]
/-- match i of a week -/
theorem match_at {M : Addr → Prop} {H : Hp} {xs : List V} {ms : List Mt3} {i : Int} (dm : DmAll M H xs (ms.map mD)) (h0 : 0 ≤ i) (h1 : i < ms.length) : ∃ (n : Nat) (m : Mt3) (b : Addr), i = n ∧ ms[n]? = some m ∧ xs[n]? = some (.ref b) ∧ H b = some (.tup [.int m.1, .str m.2.1, .str m.2.2]) ∧ sidesOf ms i = [m.2.1, m.2.2] := by
  obtain ⟨n, rfl⟩ := Int.eq_ofNat_of_zero_le h0
  have hn : n < ms.length := by omega
  have e : ms[n]? = some ms[n] := List.getElem?_eq_getElem hn
  obtain ⟨v, hv, dv⟩ := dm.at_ (i := n) (d := mD ms[n]) (by rw [List.getElem?_map, e]; rfl)
  obtain ⟨b, rfl, hb⟩ := mD_inv dv
  refine ⟨n, ms[n], b, rfl, e, hv, hb, ?_⟩
  unfold sidesOf
  rw [show (n : Int).toNat = n from rfl, e]
end Rw
namespace Rw
open PySem PySem.Spec PyProof.Rows L2
theorem irange_len (lo hi : Int) : (irange lo hi).length = (hi - lo).toNat := by unfold irange; rw [List.length_map, List.length_range]
theorem irange_at {lo hi : Int} {i : Nat} {n : Int} (h : (irange lo hi)[i]? = some n) : n = lo + i ∧ i < (hi - lo).toNat := by
  unfold irange at h
  rw [List.getElem?_map] at h
  by_cases c : i < (hi - lo).toNat
  · rw [List.getElem?_range c] at h
    exact ⟨(Option.some.inj h).symm, c⟩
  · rw [List.getElem?_eq_none (by rw [List.length_range]; omega)] at h
    cases h
theorem onL_len (D : Int) (ms : List Mt3) (n : Int) : (onL D ms n).length ≤ ms.length := by
  unfold onL
  rw [List.length_map]
  exact Nat.le_trans (List.length_filter_le _ _) (by rw [List.length_zipIdx]; exact Nat.le_refl _)
theorem flat_le {α β : Type} {f : α → List β} {k : Nat} (h : ∀ a, (f a).length ≤ k) : ∀ l : List α, (l.flatMap f).length ≤ k * l.length
  | [] => Nat.zero_le _
  | a :: l => by
    rw [List.flatMap_cons, List.length_append, List.length_cons, Nat.mul_add]
    have := h a
    have := flat_le h l
    omega
end Rw
namespace Rw
open PySem PySem.Spec PyProof.Rows L2
theorem walk_ir (lo hi : Int) : Walk (Itr lo (hi - lo).toNat) (irange lo hi).length (fun _ => True) (YFn fun i => .int (lo + i)) := by rw [irange_len]; exact walk_range
end Rw
namespace Rw
open PySem PySem.Spec PyProof.Rows L2
/-! ### sorting -/
def insB {α : Type} (le : α → α → Bool) (x : α) : List α → List α
  | [] => [x]
  | y :: ys => if le x y then x :: y :: ys else y :: insB le x ys
def isort {α : Type} (le : α → α → Bool) : List α → List α
  | [] => []
  | x :: xs => insB le x (isort le xs)
section
variable {α : Type} {le : α → α → Bool}
theorem insB_perm (x : α) : ∀ l : List α, (insB le x l).Perm (x :: l)
  | [] => .refl _
  | y :: l => by
    unfold insB
    split
    · exact .refl _
    · exact ((insB_perm x l).cons y).trans (.swap x y l)
theorem isort_perm : ∀ l : List α, (isort le l).Perm l
  | [] => .refl _
  | x :: l => (insB_perm x (isort le l)).trans ((isort_perm l).cons x)
theorem insB_sorted (tr : ∀ a b c, le a b = true → le b c = true → le a c = true) (to : ∀ a b, le a b = true ∨ le b a = true) (x : α) : ∀ l : List α, l.Pairwise (fun a b => le a b = true) → (insB le x l).Pairwise (fun a b => le a b = true)
  | [], _ => .cons (fun _ h => nomatch h) .nil
  | y :: l, h => by
    cases h with
    | cons h1 h2 =>
      unfold insB
      split
      · rename_i c
        refine .cons (fun z hz => ?_) (.cons h1 h2)
        rcases List.mem_cons.mp hz with e | e
        · exact e ▸ c
        · exact tr _ _ _ c (h1 z e)
      · rename_i c
        have c2 : le y x = true := (to x y).resolve_left c
        refine .cons (fun z hz => ?_) (insB_sorted tr to x l h2)
        rcases List.mem_cons.mp ((insB_perm x l).mem_iff.mp hz) with e | e
        · exact e ▸ c2
        · exact h1 z e
theorem isort_sorted (tr : ∀ a b c, le a b = true → le b c = true → le a c = true) (to : ∀ a b, le a b = true ∨ le b a = true) : ∀ l : List α, (isort le l).Pairwise (fun a b => le a b = true)
  | [] => .nil
  | x :: l => insB_sorted tr to x _ (isort_sorted tr to l)
end
def leT (a b : Wt) : Bool := decide (a.1 < b.1 ∨ (a.1 = b.1 ∧ (a.2.1 < b.2.1 ∨ (a.2.1 = b.2.1 ∧ a.2.2 ≤ b.2.2))))
def leP (a b : Int × Int) : Bool := decide (a.1 < b.1 ∨ (a.1 = b.1 ∧ a.2 ≤ b.2))
def sortT (l : List Wt) : List Wt := isort leT l
def sortP (l : List (Int × Int)) : List (Int × Int) := isort leP l
end Rw
set_option Elab.async false
set_option linter.all false
set_option maxRecDepth 100000
set_option maxHeartbeats 4000000
namespace Rw
open PySem PySem.Spec PySem.W PyProof.Rows L2
theorem lt3 (a b c a' b' c' : Int) : dataLt (.tuple [.int a, .int b, .int c]) (.tuple [.int a', .int b', .int c']) = decide (a < a' ∨ (a = a' ∧ (b < b' ∨ (b = b' ∧ c < c')))) := by
  rw [dataLt_tuple, dataLt_cons (by simp [alike]), dataLt_cons (by simp [alike]), dataLt_cons (by simp [alike]), dataLt_int, dataLt_int, dataLt_int]
  have e : PyProof.Rows.lexLt itemOrd (keyToksAll []) (keyToksAll []) = false := lex_irrefl _
  rw [e]
  simp only [PyData.eqv, beq_iff_eq]
  by_cases h1 : a = a' <;> by_cases h2 : b = b' <;> by_cases h3 : c = c' <;> simp [h1, h2, h3]
theorem le_tD : dataLe false tD = leT := by
  funext p q
  show (!dataLt (.tuple [.int q.1, .int q.2.1, .int q.2.2]) (.tuple [.int p.1, .int p.2.1, .int p.2.2])) = leT p q
  rw [lt3]
  unfold leT
  by_cases h : q.1 < p.1 ∨ (q.1 = p.1 ∧ (q.2.1 < p.2.1 ∨ (q.2.1 = p.2.1 ∧ q.2.2 < p.2.2)))
  · have h' : ¬ (p.1 < q.1 ∨ (p.1 = q.1 ∧ (p.2.1 < q.2.1 ∨ (p.2.1 = q.2.1 ∧ p.2.2 ≤ q.2.2)))) := by omega
    rw [decide_eq_true h, decide_eq_false h']
    rfl
  · have h' : p.1 < q.1 ∨ (p.1 = q.1 ∧ (p.2.1 < q.2.1 ∨ (p.2.1 = q.2.1 ∧ p.2.2 ≤ q.2.2))) := by omega
    rw [decide_eq_false h, decide_eq_true h']
    rfl
theorem le_pD : dataLe false pD = leP := dataLe_ii Prod.fst Prod.snd
theorem tr_T (x y z : Wt) (a : leT x y = true) (b : leT y z = true) : leT x z = true := by
  unfold leT at *
  simp only [decide_eq_true_eq] at *
  omega
theorem to_T (x y : Wt) : leT x y = true ∨ leT y x = true := by
  unfold leT
  simp only [decide_eq_true_eq]
  omega
theorem an_T (x y : Wt) (a : leT x y = true) (b : leT y x = true) : x = y := by
  unfold leT at *
  simp only [decide_eq_true_eq] at *
  obtain ⟨x1, x2, x3⟩ := x
  obtain ⟨y1, y2, y3⟩ := y
  simp only at a b
  have : x1 = y1 ∧ x2 = y2 ∧ x3 = y3 := by omega
  obtain ⟨rfl, rfl, rfl⟩ := this
  rfl
theorem tr_P (x y z : Int × Int) (a : leP x y = true) (b : leP y z = true) : leP x z = true := by
  unfold leP at *
  simp only [decide_eq_true_eq] at *
  omega
theorem to_P (x y : Int × Int) : leP x y = true ∨ leP y x = true := by
  unfold leP
  simp only [decide_eq_true_eq]
  omega
theorem an_P (x y : Int × Int) (a : leP x y = true) (b : leP y x = true) : x = y := by
  unfold leP at *
  simp only [decide_eq_true_eq] at *
  obtain ⟨x1, x2⟩ := x
  obtain ⟨y1, y2⟩ := y
  simp only at a b
  have : x1 = y1 ∧ x2 = y2 := by omega
  obtain ⟨rfl, rfl⟩ := this
  rfl
theorem sortT_eq (l : List Wt) : sortT l = l.mergeSort leT := Srt.the_of_perm leT tr_T (fun x y => by have := to_T x y; simpa using this) an_T (isort_perm l) (isort_sorted tr_T to_T l)
theorem sortP_eq (l : List (Int × Int)) : sortP l = l.mergeSort leP := Srt.the_of_perm leP tr_P (fun x y => by have := to_P x y; simpa using this) an_P (isort_perm l) (isort_sorted tr_P to_P l)
theorem sorts {β : Type} {enc : β → PyData} {le : β → β → Bool} (h : dataLe false enc = le) {zs : List (V × PyData)} {ts : List β} (e : zs.map Prod.snd = ts.map enc) : (zs.mergeSort (dataLe false (·.2))).map Prod.snd = (ts.mergeSort le).map enc := by
  have e1 : (zs.mergeSort (dataLe false (·.2))).map Prod.snd = (zs.map Prod.snd).mergeSort (dataLe false id) := sort_maps Prod.snd (r := dataLe false fun z : V × PyData => z.2) (s := dataLe false id) fun _ _ _ _ => rfl
  have e2 : (ts.mergeSort (dataLe false enc)).map enc = (ts.map enc).mergeSort (dataLe false id) := sort_maps enc (r := dataLe false enc) (s := dataLe false id) fun _ _ _ _ => rfl
  rw [e1, e, ← e2, h]
theorem zip_dm {M : Addr → Prop} {H : Hp} : ∀ {xs : List V} {ds : List PyData}, DmAll M H xs ds → (xs.zip ds).map Prod.fst = xs ∧ (xs.zip ds).map Prod.snd = ds ∧ ∀ z ∈ xs.zip ds, Dm M H z.1 z.2
  | [], [], _ => ⟨rfl, rfl, fun _ h => nomatch h⟩
  | [], _ :: _, h => nomatch h
  | _ :: _, [], h => nomatch h
  | x :: xs, d :: ds, h => by
    cases h with
    | cons h1 h2 =>
      obtain ⟨a, b, c⟩ := zip_dm h2
      refine ⟨congrArg (x :: ·) a, congrArg (d :: ·) b, fun z hz => ?_⟩
      rcases List.mem_cons.mp (show z ∈ (x, d) :: xs.zip ds from hz) with e | e
      · exact e ▸ h1
      · exact c z e
theorem dm_zs {M : Addr → Prop} {H : Hp} : ∀ {zs : List (V × PyData)}, (∀ z ∈ zs, Dm M H z.1 z.2) → DmAll M H (zs.map Prod.fst) (zs.map Prod.snd)
  | [], _ => .nil
  | z :: zs, h => .cons (h z List.mem_cons_self) (dm_zs fun y hy => h y (List.mem_cons_of_mem _ hy))
/-- sorted(xs), as data of one kind -/
def rSortB (K : PySem.W.Frag) {β : Type} (enc : β → PyData) (srt : List β → List β) : List V → Hp → VK → Prop := fun vs H Q => ∃ (a : Addr) (xs : List V) (ts : List β), vs = [.ref a] ∧ SqL K H a xs ∧ DmAll N0 H xs (ts.map enc) ∧
  ∀ p ys, H p = none → DmAll N0 (upd H p (.lst ys)) ys ((srt ts).map enc) → Q (.ref p) (upd H p (.lst ys))
theorem cr_sortB {X : Cx} {β : Type} {enc : β → PyData} {le : β → β → Bool} {srt : List β → List β} (hu : X.A.units + 64 < cLine) (h : dataLe false enc = le) (hs : ∀ l, srt l = l.mergeSort le) (hd : ∀ b, (enc b).depth ≤ 60) (al : ∀ b b', alike (enc b) (enc b') = true)
    (so : ∀ b, ∃ x r, enc b = .tuple (x :: r)) : CallR X (.builtin "sorted") (rSortB X.K enc srt) := by
  intro pins s σ H vs us Q I r hh
  obtain ⟨a, xs, ts, rfl, h1, h2, q⟩ := hh
  obtain ⟨z1, z2, z3⟩ := zip_dm h2
  have sok : Sortable ((xs.zip (ts.map enc)).map Prod.snd) := by
    rw [z2]
    refine .inl fun d hd => ?_
    obtain ⟨b, _, rfl⟩ := List.mem_map.mp hd
    exact so b
  refine cr_sortD hu pins s σ H [.ref a] us Q I r ⟨a, xs.zip (ts.map enc), rfl, by rw [z1]; exact h1, fun z hz => ⟨(z3 z hz).dp, ?_⟩, by rw [z2]; exact AllAlike.of al, sok, fun p hp => q p _ hp ?_⟩
  · have : z.2 ∈ (xs.zip (ts.map enc)).map Prod.snd := List.mem_map_of_mem hz
    rw [z2] at this
    obtain ⟨b, _, e⟩ := List.mem_map.mp this
    exact e ▸ hd b
  · have e := sorts h z2
    rw [← hs] at e
    rw [← e]
    refine dm_zs fun z hz => ?_
    exact (z3 z ((List.mergeSort_perm _ _).mem_iff.mp hz)).same (same_new hp)
theorem cr_sortT3 {X : Cx} (hu : X.A.units + 64 < cLine) : CallR X (.builtin "sorted") (rSortB X.K tD sortT) := cr_sortB hu le_tD sortT_eq (fun _ => Nat.le_of_ble_eq_true rfl) (fun _ _ => rfl) fun _ => ⟨_, _, rfl⟩
theorem cr_sortP2 {X : Cx} (hu : X.A.units + 64 < cLine) : CallR X (.builtin "sorted") (rSortB X.K pD sortP) := cr_sortB hu le_pD sortP_eq (fun _ => Nat.le_of_ble_eq_true rfl) (fun _ _ => rfl) fun _ => ⟨_, _, rfl⟩
end Rw
set_option Elab.async false
set_option linter.all false
set_option maxRecDepth 100000
set_option maxHeartbeats 4000000
/-! own layer, data: values as trees, who owns what may change; the state of a body as slots of trees -/
namespace Fn
open PySem PySem.Spec PyProof.Rows L2 Rw LamX

/-- a value as a tree -/
inductive T where
  | non | bl (b : Bool) | int (i : Int) | str (x : Str) | tup (ts : List T) | lst (ts : List T)
  | scr (ts : List T) | obj (c : Str) (ns : List Str) (ts : List T) | dic (ks vs : List T) | rng (lo hi : Int) | fnc
  deriving Inhabited
mutual
def T.key : T → Option NestedKey
  | .non => some .none
  | .bl b => some (.num (if b = true then 1 else 0))
  | .int i => some (.num i)
  | .str x => some (.text x)
  | .tup ts => (T.keys ts).map .tup
  | _ => none
def T.keys : List T → Option (List NestedKey)
  | [] => some []
  | t :: ts => match T.key t, T.keys ts with
    | some k, some ks => some (k :: ks)
    | _, _ => none
end
/-- what the reading leans on: where the classes stand, the world -/
structure Ev where
  cl : Str → Addr
  w : World
  K : PySem.W.Frag
  /-- the tables of code objects -/
  tb : List (Addr × Str)
  /-- the function that was handed over: where it stands, the heap when it was made, what of that may have changed -/
  fn : Option (Addr × Hp × (Addr → Prop))
/-- no table -/
def NT (o : HO) : Prop := ∀ ps, o ≠ .tbl ps
/-- a dict with keys that are tuples: its entries (key, where the key's tuple stands, value) -/
def DicO (w : World) (a : Addr) (xs : List (NestedKey × Addr × V)) : HO := .ext fun h => ∃ o es ep, h.get? a = some o ∧ o.ExactDict ∧ o.data = .dict es ep ∧ (a == sysModules) = false ∧ (xs.map (·.1)).Nodup ∧ (∀ x ∈ xs, x.1.depth ≤ 8) ∧ xs.length ≤ 1000000 ∧
  Paired (fun (x : NestedKey × Addr × V) (e : DictEntry) => e.hash = x.1.hash w ∧ e.key = .ref x.2.1 ∧ RelV x.2.2 e.val) xs es.toList
/-- a tuple of the module's own top -/
def KTup (K : PySem.W.Frag) (a : Addr) (xs : List V) : Prop := ∃ (o : Obj) (its : Array Value) (n : Nat), K.lookup a = some o ∧ o.cls = .type "tuple" ∧ o.data = .seq its n ∧ its.size ≤ sizeLine ∧ Vals xs its.toList
/-- a list of the module's own top -/
def KLst (K : PySem.W.Frag) (a : Addr) (xs : List V) : Prop := ∃ (o : Obj) (its : Array Value) (n : Nat), K.lookup a = some o ∧ o.cls = .type "list" ∧ o.dict = none ∧ o.data = .seq its n ∧ its.size ≤ sizeLine ∧ Vals xs its.toList
mutual
/-- v shows the tree t in H, and nothing of it stands in M -/
inductive Rep (E : Ev) (M : Addr → Prop) (H : Hp) : V → T → Prop
  | non : Rep E M H .non .non
  | bl (b : Bool) : Rep E M H (.bl b) (.bl b)
  | int (i : Int) : Rep E M H (.int i) (.int i)
  | str (x : Str) : Rep E M H (.str x) (.str x)
  | tup {a : Addr} {xs : List V} {ts : List T} : ¬ M a → Rd H a (.tup xs) → RepAll E M H xs ts → Rep E M H (.ref a) (.tup ts)
  | ktup {a : Addr} {xs : List V} {ts : List T} : KTup E.K a xs → RepAll E M H xs ts → Rep E M H (.ref a) (.tup ts)
  | lst {a : Addr} {xs : List V} {ts : List T} : ¬ M a → H a = some (.lst xs) → RepAll E M H xs ts → Rep E M H (.ref a) (.lst ts)
  | scr {a : Addr} {o : Obj} {xs : List V} {ts : List T} : ¬ M a → H a = some (.frz o (.lst xs)) → RepAll E M H xs ts → Rep E M H (.ref a) (.scr ts)
  | kscr {a : Addr} {xs : List V} {ts : List T} : KLst E.K a xs → RepAll E M H xs ts → Rep E M H (.ref a) (.scr ts)
  | obj {a dx : Addr} {c : Str} {fs : List (Str × V)} {ts : List T} : ¬ M a → H a = some (.ins (E.cl c) dx fs) → RepAll E M H (fs.map (·.2)) ts → Rep E M H (.ref a) (.obj c (fs.map (·.1)) ts)
  | dic {a : Addr} {xs : List (NestedKey × Addr × V)} {ks vs : List T} : ¬ M a → H a = some (DicO E.w a xs) → T.keys ks = some (xs.map (·.1)) → RepAll E M H (xs.map fun x => .ref x.2.1) ks → RepAll E M H (xs.map (·.2.2)) vs → Rep E M H (.ref a) (.dic ks vs)
  | rng {a : Addr} {lo hi : Int} : ¬ M a → H a = some (.rng lo hi) → Rep E M H (.ref a) (.rng lo hi)
  | fnc {a : Addr} {H1 : Hp} {MF : Addr → Prop} : E.fn = some (a, H1, MF) → (∀ b o, H1 b = some o → NT o → ¬ MF b → H b = some o ∧ ¬ M b) → Rep E M H (.ref a) .fnc
inductive RepAll (E : Ev) (M : Addr → Prop) (H : Hp) : List V → List T → Prop
  | nil : RepAll E M H [] []
  | cons {v : V} {vs : List V} {t : T} {ts : List T} : Rep E M H v t → RepAll E M H vs ts → RepAll E M H (v :: vs) (t :: ts)
end
section
variable {E : Ev} {M M' : Addr → Prop} {H H' : Hp}
theorem nt_tup {xs : List V} : NT (.tup xs) := fun ps z => by cases z
theorem nt_dic {w : World} {a : Addr} {xs : List (NestedKey × Addr × V)} : NT (DicO w a xs) := fun ps z => by unfold DicO at z; cases z
theorem rd_mv {a : Addr} {u : HO} (k : ∀ a o, H a = some o → NT o → ¬ M a → H' a = some o ∧ ¬ M' a) (hm : ¬ M a) (nu : NT u) (h : Rd H a u) : Rd H' a u ∧ ¬ M' a := by
  rcases h with h | ⟨o, h⟩
  · exact ⟨.inl (k _ _ h nu hm).1, (k _ _ h nu hm).2⟩
  · have n : NT (.frz o u) := fun ps z => nomatch z
    exact ⟨.inr ⟨o, (k _ _ h n hm).1⟩, (k _ _ h n hm).2⟩
mutual
theorem Rep.mvN (k : ∀ a o, H a = some o → NT o → ¬ M a → H' a = some o ∧ ¬ M' a) : ∀ (t : T) (v : V), Rep E M H v t → Rep E M' H' v t
  | .non, _, h => by cases h; exact .non
  | .bl _, _, h => by cases h; exact .bl _
  | .int _, _, h => by cases h; exact .int _
  | .str _, _, h => by cases h; exact .str _
  | .tup ts, _, h => by
    cases h with
    | tup hm ha hs => exact .tup (rd_mv k hm nt_tup ha).2 (rd_mv k hm nt_tup ha).1 (RepAll.mvN k ts _ hs)
    | ktup hk hs => exact .ktup hk (RepAll.mvN k ts _ hs)
  | .lst ts, _, h => by
    cases h with
    | lst hm ha hs => have q := k _ _ ha (fun ps z => nomatch z) hm; exact .lst q.2 q.1 (RepAll.mvN k ts _ hs)
  | .scr ts, _, h => by
    cases h with
    | scr hm ha hs => have q := k _ _ ha (fun ps z => nomatch z) hm; exact .scr q.2 q.1 (RepAll.mvN k ts _ hs)
    | kscr hk hs => exact .kscr hk (RepAll.mvN k ts _ hs)
  | .obj c ns ts, _, h => by
    cases h with
    | obj hm ha hs => have q := k _ _ ha (fun ps z => nomatch z) hm; exact .obj q.2 q.1 (RepAll.mvN k ts _ hs)
  | .dic ks vs, _, h => by
    cases h with
    | dic hm ha hk h1 h2 => have q := k _ _ ha nt_dic hm; exact .dic q.2 q.1 hk (RepAll.mvN k ks _ h1) (RepAll.mvN k vs _ h2)
  | .rng lo hi, _, h => by
    cases h with
    | rng hm ha => have q := k _ _ ha (fun ps z => nomatch z) hm; exact .rng q.2 q.1
  | .fnc, _, h => by
    cases h with
    | fnc e q => exact .fnc e fun b o h1 n m => let ⟨q1, q2⟩ := q b o h1 n m; k b o q1 n q2
theorem RepAll.mvN (k : ∀ a o, H a = some o → NT o → ¬ M a → H' a = some o ∧ ¬ M' a) : ∀ (ts : List T) (vs : List V), RepAll E M H vs ts → RepAll E M' H' vs ts
  | [], _, h => by cases h; exact .nil
  | t :: ts, _, h => by
    cases h with
    | cons h1 h2 => exact .cons (Rep.mvN k t _ h1) (RepAll.mvN k ts _ h2)
end
theorem Rep.mv (k : ∀ a o, H a = some o → ¬ M a → H' a = some o ∧ ¬ M' a) (t : T) (v : V) (h : Rep E M H v t) : Rep E M' H' v t := Rep.mvN (fun a o e _ m => k a o e m) t v h
theorem RepAll.mv (k : ∀ a o, H a = some o → ¬ M a → H' a = some o ∧ ¬ M' a) (ts : List T) (vs : List V) (h : RepAll E M H vs ts) : RepAll E M' H' vs ts := RepAll.mvN (fun a o e _ m => k a o e m) ts vs h
theorem Rep.same {v : V} {t : T} (h : Rep E M H v t) (s : Same H H') : Rep E M H' v t := Rep.mv (fun a o e m => ⟨s a o e, m⟩) t v h
theorem RepAll.same {vs : List V} {ts : List T} (h : RepAll E M H vs ts) (s : Same H H') : RepAll E M H' vs ts := RepAll.mv (fun a o e m => ⟨s a o e, m⟩) ts vs h
/-- fewer places may change -/
theorem Rep.an {v : V} {t : T} (h : Rep E M H v t) (k : ∀ a, M' a → M a) : Rep E M' H v t := Rep.mv (fun a o e m => ⟨e, fun z => m (k a z)⟩) t v h
theorem RepAll.an {vs : List V} {ts : List T} (h : RepAll E M H vs ts) (k : ∀ a, M' a → M a) : RepAll E M' H vs ts := RepAll.mv (fun a o e m => ⟨e, fun z => m (k a z)⟩) ts vs h
theorem RepAll.len : ∀ {vs : List V} {ts : List T}, RepAll E M H vs ts → vs.length = ts.length
  | [], _, h => by cases h; rfl
  | v :: vs, _, h => by
    cases h with
    | cons h1 h2 => rw [List.length_cons, List.length_cons, RepAll.len h2]
theorem RepAll.app : ∀ {vs ws : List V} {ts us : List T}, RepAll E M H vs ts → RepAll E M H ws us → RepAll E M H (vs ++ ws) (ts ++ us)
  | [], _, _, _, h, h' => by cases h; exact h'
  | v :: vs, _, _, _, h, h' => by
    cases h with
    | cons h1 h2 => exact .cons h1 (RepAll.app h2 h')
theorem RepAll.at : ∀ {vs : List V} {ts : List T} {i : Nat} {v : V}, RepAll E M H vs ts → vs[i]? = some v → ∃ t, ts[i]? = some t ∧ Rep E M H v t
  | [], _, _, _, _, e => by simp at e
  | v :: vs, _, i, _, h, e => by
    cases h with
    | cons h1 h2 =>
      cases i with
      | zero => simp at e; subst e; exact ⟨_, rfl, h1⟩
      | succ i => simpa using RepAll.at (i := i) h2 (by simpa using e)
theorem RepAll.at_ : ∀ {vs : List V} {ts : List T} {i : Nat} {t : T}, RepAll E M H vs ts → ts[i]? = some t → ∃ v, vs[i]? = some v ∧ Rep E M H v t
  | _, [], _, _, _, e => by simp at e
  | _, t :: ts, i, _, h, e => by
    cases h with
    | cons h1 h2 =>
      cases i with
      | zero => simp at e; subst e; exact ⟨_, rfl, h1⟩
      | succ i => simpa using RepAll.at_ (i := i) h2 (by simpa using e)
theorem RepAll.take : ∀ (n : Nat) {vs : List V} {ts : List T}, RepAll E M H vs ts → RepAll E M H (vs.take n) (ts.take n)
  | 0, _, _, _ => .nil
  | _ + 1, [], _, h => by cases h; exact .nil
  | n + 1, v :: vs, _, h => by
    cases h with
    | cons h1 h2 => exact .cons h1 (RepAll.take n h2)
theorem RepAll.drop : ∀ (n : Nat) {vs : List V} {ts : List T}, RepAll E M H vs ts → RepAll E M H (vs.drop n) (ts.drop n)
  | 0, _, _, h => h
  | _ + 1, [], _, h => by cases h; exact .nil
  | n + 1, v :: vs, _, h => by
    cases h with
    | cons h1 h2 => exact RepAll.drop n h2
theorem RepAll.set : ∀ {vs : List V} {ts : List T} {v : V} {t : T} (i : Nat), RepAll E M H vs ts → Rep E M H v t → RepAll E M H (vs.set i v) (ts.set i t)
  | [], _, _, _, _, h, _ => by cases h; exact .nil
  | _ :: _, _, _, _, 0, h, h' => by
    cases h with
    | cons h1 h2 => exact .cons h' h2
  | _ :: _, _, _, _, i + 1, h, h' => by
    cases h with
    | cons h1 h2 => exact .cons h1 (RepAll.set i h2 h')
theorem RepAll.erase : ∀ {vs : List V} {ts : List T} (i : Nat), RepAll E M H vs ts → RepAll E M H (vs.eraseIdx i) (ts.eraseIdx i)
  | [], _, _, h => by cases h; exact .nil
  | _ :: _, _, 0, h => by
    cases h with
    | cons h1 h2 => exact h2
  | _ :: _, _, i + 1, h => by
    cases h with
    | cons h1 h2 => exact .cons h1 (RepAll.erase i h2)
theorem RepAll.rev : ∀ {vs : List V} {ts : List T}, RepAll E M H vs ts → RepAll E M H vs.reverse ts.reverse
  | [], _, h => by cases h; exact .nil
  | v :: vs, _, h => by
    cases h with
    | cons h1 h2 => rw [List.reverse_cons, List.reverse_cons]; exact RepAll.app (RepAll.rev h2) (.cons h1 .nil)
theorem RepAll.map {α : Type} {f : α → V} {g : α → T} : ∀ {l : List α}, (∀ x ∈ l, Rep E M H (f x) (g x)) → RepAll E M H (l.map f) (l.map g)
  | [], _ => .nil
  | x :: l, h => .cons (h x List.mem_cons_self) (RepAll.map fun y hy => h y (List.mem_cons_of_mem _ hy))
theorem RepAll.ints : ∀ {vs : List V} {ns : List Int}, RepAll E M H vs (ns.map T.int) → vs = ns.map V.int
  | _, [], h => by cases h; rfl
  | _, n :: ns, h => by
    cases h with
    | cons h1 h2 => cases h1; rw [RepAll.ints h2]; rfl
theorem RepAll.bls : ∀ {vs : List V} {ns : List Bool}, RepAll E M H vs (ns.map T.bl) → vs = ns.map V.bl
  | _, [], h => by cases h; rfl
  | _, n :: ns, h => by
    cases h with
    | cons h1 h2 => cases h1; rw [RepAll.bls h2]; rfl
theorem RepAll.strs : ∀ {vs : List V} {ns : List Str}, RepAll E M H vs (ns.map T.str) → vs = ns.map V.str
  | _, [], h => by cases h; rfl
  | _, n :: ns, h => by
    cases h with
    | cons h1 h2 => cases h1; rw [RepAll.strs h2]; rfl
end

/-- a thing o that shows the tree -/
def OwnO (E : Ev) (M : Addr → Prop) (H : Hp) (a : Addr) : T → HO → Prop
  | .lst ts, o => ∃ xs, o = .lst xs ∧ RepAll E M H xs ts
  | .obj c ns ts, o => ∃ dx fs, o = .ins (E.cl c) dx fs ∧ fs.map (·.1) = ns ∧ RepAll E M H (fs.map (·.2)) ts
  | .dic ks vs, o => ∃ xs, o = DicO E.w a xs ∧ T.keys ks = some (xs.map (·.1)) ∧ RepAll E M H (xs.map fun x => .ref x.2.1) ks ∧ RepAll E M H (xs.map (·.2.2)) vs
  | _, _ => False
/-- what stands at a place of one's own -/
def OwnR (E : Ev) (M : Addr → Prop) (H : Hp) (a : Addr) (t : T) : Prop := ∃ o, H a = some o ∧ OwnO E M H a t o
section
variable {E : Ev} {M M' : Addr → Prop} {H H' : Hp} {a : Addr} {t : T} {o : HO}
theorem OwnO.mvN (k : ∀ a o, H a = some o → NT o → ¬ M a → H' a = some o ∧ ¬ M' a) (h : OwnO E M H a t o) : OwnO E M' H' a t o := by
  cases t with
  | lst ts => obtain ⟨xs, e, h⟩ := h; exact ⟨xs, e, RepAll.mvN k _ _ h⟩
  | obj c ns ts => obtain ⟨dx, fs, e, e2, h⟩ := h; exact ⟨dx, fs, e, e2, RepAll.mvN k _ _ h⟩
  | dic ks vs => obtain ⟨xs, e, e2, h1, h2⟩ := h; exact ⟨xs, e, e2, RepAll.mvN k _ _ h1, RepAll.mvN k _ _ h2⟩
  | _ => exact h.elim
theorem OwnO.mv (k : ∀ a o, H a = some o → ¬ M a → H' a = some o ∧ ¬ M' a) (h : OwnO E M H a t o) : OwnO E M' H' a t o := h.mvN fun a o e _ m => k a o e m
theorem OwnO.nt (h : OwnO E M H a t o) : NT o := by
  cases t with
  | lst ts => obtain ⟨xs, rfl, h⟩ := h; exact fun ps z => nomatch z
  | obj c ns ts => obtain ⟨dx, fs, rfl, e2, h⟩ := h; exact fun ps z => nomatch z
  | dic ks vs => obtain ⟨xs, rfl, e2, h1, h2⟩ := h; exact nt_dic
  | _ => exact h.elim
theorem OwnO.nc {c : Addr} {q : Str} (h : OwnO E M H a t o) : o ≠ CodeO c q := by
  cases t with
  | lst ts => obtain ⟨xs, rfl, h⟩ := h; intro z; unfold CodeO at z; cases z
  | obj c ns ts => obtain ⟨dx, fs, rfl, e2, h⟩ := h; intro z; unfold CodeO at z; cases z
  | dic ks vs =>
    obtain ⟨xs, rfl, e2, h1, h2⟩ := h
    intro z
    unfold CodeO DicO at z
    have z1 := congrFun (HO.ext.inj z) ⟨Array.replicate (c + 1 + a) { cls := .none, data := .fields #[.none, .str q default] }, {}⟩
    have z2 := cast z1.symm ⟨{ cls := .none, data := .fields #[.none, .str q default] }, #[.none, .str q default], default, by unfold Heap.get?; rw [Array.getElem?_replicate, if_pos (by omega)], rfl, rfl⟩
    obtain ⟨o', es, ep, g1, _, g3, _⟩ := z2
    have g4 : o' = { cls := .none, data := .fields #[.none, .str q default] } := by
      unfold Heap.get? at g1
      split at g1
      · cases g1
      · have := g1
        rw [Array.getElem?_eq_some_iff] at this
        obtain ⟨_, this⟩ := this
        simpa using this.symm
    rw [g4] at g3
    cases g3
  | _ => exact h.elim
theorem OwnR.mvN (k : ∀ a o, H a = some o → NT o → ¬ M a → H' a = some o ∧ ¬ M' a) (ka : H' a = H a) (h : OwnR E M H a t) : OwnR E M' H' a t := let ⟨o, e, q⟩ := h; ⟨o, ka.trans e, q.mvN k⟩
theorem OwnR.mv (k : ∀ a o, H a = some o → ¬ M a → H' a = some o ∧ ¬ M' a) (ka : H' a = H a) (h : OwnR E M H a t) : OwnR E M' H' a t := let ⟨o, e, q⟩ := h; ⟨o, ka.trans e, q.mv k⟩
theorem OwnR.nt (h : OwnR E M H a t) (e : H a = some o) : NT o := by
  obtain ⟨o', e', q⟩ := h
  rw [e] at e'; cases e'
  exact q.nt
theorem OwnR.tr (h : OwnR E M H a t) : ∃ o, H a = some o := let ⟨o, e, _⟩ := h; ⟨o, e⟩
/-- no more one's own -/
theorem OwnR.rep (h : OwnR E M H a t) (k : ∀ a, M' a → M a) (hm : ¬ M' a) : Rep E M' H (.ref a) t := by
  obtain ⟨o, q, h⟩ := h
  cases t with
  | lst ts => obtain ⟨xs, e, h⟩ := h; subst e; exact .lst hm q (h.an k)
  | obj c ns ts => obtain ⟨dx, fs, e, e2, h⟩ := h; subst e; subst e2; exact .obj hm q (h.an k)
  | dic ks vs => obtain ⟨xs, e, e2, h1, h2⟩ := h; subst e; exact .dic hm q e2 (h1.an k) (h2.an k)
  | _ => exact h.elim
end

/-- a slot: nothing, a value that never changes, a thing of one's own that may, such a one of the caller's; on the stack also: the same as a local -/
inductive Sl where
  | no | val (t : T) | own (t : T) | io (t : T) | ali (j : Nat)
def Sl.own? : Sl → Option T
  | .own t => some t
  | .io t => some t
  | _ => none
/-- fixed through a body: what must not be met (FB), what of the caller's may change (M0), the heap at the entry, the slots at the entry -/
structure Rc where
  FB : Addr → Prop
  M0 : Addr → Prop
  H0 : Hp
  s0 : List (Option V)
abbrev Pr2 := Option V × Sl
def ownA (x : Pr2) (a : Addr) : Prop := (∃ t, x.2.own? = some t) ∧ x.1 = some (.ref a)
def Mw (P : List Pr2) (a : Addr) : Prop := ∃ x ∈ P, ownA x a
def Mx (R : Rc) (P : List Pr2) (a : Addr) : Prop := R.FB a ∨ Mw P a
/-- something stands there that is no table -/
def HasN (H : Hp) (a : Addr) : Prop := ∃ o, H a = some o ∧ NT o
/-- neither a table nor a code object -/
def HasK (H : Hp) (a : Addr) : Prop := ∃ o, H a = some o ∧ NT o ∧ ∀ c q, o ≠ CodeO c q
/-- all but tables stays -/
def KpT (M : Addr → Prop) (H H' : Hp) : Prop := ∀ a o, H a = some o → NT o → ¬ M a → H' a = some o
section
variable {M : Addr → Prop} {H H' H1 : Hp} {p a : Addr} {o : HO}
theorem HasK.n (h : HasK H a) : HasN H a := let ⟨o, e, n, _⟩ := h; ⟨o, e, n⟩
theorem HasN.nn (h : HasN H a) : H a ≠ none := let ⟨o, e, _⟩ := h; by rw [e]; exact fun z => nomatch z
theorem HasK.sm (h : HasK H a) (s : Same H H') : HasK H' a := let ⟨o, e, n⟩ := h; ⟨o, s _ _ e, n⟩
theorem HasK.up (h : HasK H a) (n : NT o) (k : ∀ c q, o ≠ CodeO c q) : HasK (upd H p o) a := by
  by_cases q : a = p
  · rw [q]; exact ⟨o, upd_same, n, k⟩
  · let ⟨u, e, n⟩ := h; exact ⟨u, (upd_ne q).trans e, n⟩
theorem KpT.rf : KpT M H H := fun _ _ e _ _ => e
theorem KpT.sm (k : KpT M H H') (s : Same H' H1) : KpT M H H1 := fun a o e n m => s _ _ (k a o e n m)
theorem KpT.hasK (k : KpT M H H') (h : HasK H a) (m : ¬ M a) : HasK H' a := let ⟨o, e, n⟩ := h; ⟨o, k a o e n.1 m, n⟩
theorem KpT.has (k : KpT M H H') (h : HasN H a) (m : ¬ M a) : HasN H' a := let ⟨o, e, n⟩ := h; ⟨o, k a o e n m, n⟩
theorem KpT.wr (k : KpT M H H') (h : M p) : KpT M H (upd H' p o) := fun a u e n m => by rw [upd_ne fun z => m (by rw [z]; exact h)]; exact k a u e n m
theorem KpT.wn (k : KpT M H H') (h : ¬ HasN H p) : KpT M H (upd H' p o) := fun a u e n m => by rw [upd_ne fun z => h (by rw [← z]; exact ⟨u, e, n⟩)]; exact k a u e n m
end
theorem tabs_upd {T : List (Addr × Str)} {H : Hp} {a : Addr} {o u : HO} (t : Tabs T H) (e : H a = some u) (n : NT u) (nc : ∀ c q, u ≠ CodeO c q) : Tabs T (upd H a o) := fun p hp => by
  obtain ⟨ps, h1, h2, h3⟩ := t p hp
  refine ⟨ps, by rw [upd_ne fun z => by rw [z, e] at h1; cases h1; exact n _ rfl]; exact h1, h2, fun pos cv hc => ?_⟩
  obtain ⟨c, e1, e2⟩ := h3 pos cv hc
  exact ⟨c, e1, by rw [upd_ne fun z => by rw [z, e] at e2; cases e2; exact nc _ _ rfl]; exact e2⟩
structure Good (E : Ev) (R : Rc) (H : Hp) (P : List Pr2) : Prop where
  val : ∀ x ∈ P, ∀ t, x.2 = .val t → ∃ v, x.1 = some v ∧ Rep E (Mx R P) H v t
  own : ∀ x ∈ P, ∀ t, x.2.own? = some t → ∃ a, x.1 = some (.ref a) ∧ ¬ R.FB a ∧ OwnR E (Mx R P) H a t
  fr : ∀ x ∈ P, ∀ t a, x.2 = .own t → x.1 = some (.ref a) → ¬ HasN R.H0 a
  m0 : ∀ x ∈ P, ∀ t a, x.2 = .io t → x.1 = some (.ref a) → R.M0 a
  inj : P.Pairwise fun x y => ∀ a, ownA x a → ownA y a → False
  kp : KpT R.M0 R.H0 H
  mt : ∀ a, R.M0 a → HasK H a
  ft : ∀ a, R.FB a → HasK H a
  tb : Tabs E.tb H
section
variable {E : Ev} {R : Rc} {H H' : Hp} {P P' : List Pr2} {x : Pr2} {v : V} {t t' : T} {a : Addr} {o : HO}
theorem mw_perm (p : P.Perm P') (a : Addr) : Mw P a ↔ Mw P' a := ⟨fun ⟨x, h, e⟩ => ⟨x, p.mem_iff.mp h, e⟩, fun ⟨x, h, e⟩ => ⟨x, p.mem_iff.mpr h, e⟩⟩
theorem mx_perm (p : P.Perm P') (a : Addr) : Mx R P a ↔ Mx R P' a := or_congr Iff.rfl (mw_perm p a)
theorem Good.perm (g : Good E R H P) (p : P.Perm P') : Good E R H P' where
  val := fun x hx t e => let ⟨v, h1, h2⟩ := g.val x (p.mem_iff.mpr hx) t e; ⟨v, h1, h2.an fun a z => (mx_perm p a).mpr z⟩
  own := fun x hx t e => let ⟨a, h1, h2, h3⟩ := g.own x (p.mem_iff.mpr hx) t e; ⟨a, h1, h2, h3.mv (fun b o eb m => ⟨eb, fun z => m ((mx_perm p b).mpr z)⟩) rfl⟩
  fr := fun x hx => g.fr x (p.mem_iff.mpr hx)
  m0 := fun x hx => g.m0 x (p.mem_iff.mpr hx)
  inj := (p.pairwise_iff (fun {x y} h a h1 h2 => h a h2 h1)).mp g.inj
  kp := g.kp
  mt := g.mt
  ft := g.ft
  tb := g.tb
theorem Good.same (g : Good E R H P) (s : Same H H') : Good E R H' P where
  val := fun x hx t e => let ⟨v, h1, h2⟩ := g.val x hx t e; ⟨v, h1, h2.same s⟩
  own := fun x hx t e => let ⟨a, h1, h2, h3⟩ := g.own x hx t e; ⟨a, h1, h2, h3.mv (fun b o eb m => ⟨s _ _ eb, m⟩) (h3.tr.elim fun o e => by rw [e, s _ _ e])⟩
  fr := g.fr
  m0 := g.m0
  inj := g.inj
  kp := g.kp.sm s
  tb := g.tb.ext s
  mt := fun a m => (g.mt a m).sm s
  ft := fun a m => (g.ft a m).sm s
theorem mw_cons (a : Addr) : Mw (x :: P) a ↔ ownA x a ∨ Mw P a := by
  unfold Mw
  constructor
  · rintro ⟨y, hy, e⟩
    rcases List.mem_cons.mp hy with rfl | hy
    · exact .inl e
    · exact .inr ⟨y, hy, e⟩
  · rintro (e | ⟨y, hy, e⟩)
    · exact ⟨x, List.mem_cons_self, e⟩
    · exact ⟨y, List.mem_cons_of_mem _ hy, e⟩
theorem mx_cons (a : Addr) : Mx R (x :: P) a ↔ ownA x a ∨ Mx R P a := by
  unfold Mx
  rw [mw_cons]
  constructor
  · rintro (h | h | h)
    · exact .inr (.inl h)
    · exact .inl h
    · exact .inr (.inr h)
  · rintro (h | h | h)
    · exact .inr (.inl h)
    · exact .inl h
    · exact .inr (.inr h)
theorem mx_tail {a : Addr} (h : Mx R P a) : Mx R (x :: P) a := (mx_cons a).mpr (.inr h)
/-- a slot that owns nothing adds nothing -/
theorem mx_un (hx : x.2.own? = none) (a : Addr) : Mx R (x :: P) a ↔ Mx R P a := by
  rw [mx_cons]
  constructor
  · rintro (⟨⟨t, e⟩, _⟩ | h)
    · rw [hx] at e; cases e
    · exact h
  · exact .inr
theorem Good.tail (g : Good E R H (x :: P)) : Good E R H P where
  val := fun y hy t e => let ⟨v, h1, h2⟩ := g.val y (List.mem_cons_of_mem _ hy) t e; ⟨v, h1, h2.an fun a z => mx_tail z⟩
  own := fun y hy t e => let ⟨a, h1, h2, h3⟩ := g.own y (List.mem_cons_of_mem _ hy) t e; ⟨a, h1, h2, h3.mv (fun b o eb m => ⟨eb, fun z => m (mx_tail z)⟩) rfl⟩
  fr := fun y hy => g.fr y (List.mem_cons_of_mem _ hy)
  m0 := fun y hy => g.m0 y (List.mem_cons_of_mem _ hy)
  inj := (List.pairwise_cons.mp g.inj).2
  kp := g.kp
  mt := g.mt
  ft := g.ft
  tb := g.tb
/-- a slot more that owns nothing -/
theorem Good.more (g : Good E R H P) (hx : x.2.own? = none) (hv : ∀ t, x.2 = .val t → ∃ v, x.1 = some v ∧ Rep E (Mx R P) H v t) : Good E R H (x :: P) where
  val := fun y hy t e => by
    rcases List.mem_cons.mp hy with rfl | hy
    · obtain ⟨v, h1, h2⟩ := hv t e
      exact ⟨v, h1, h2.an fun a z => (mx_un hx a).mp z⟩
    · obtain ⟨v, h1, h2⟩ := g.val y hy t e
      exact ⟨v, h1, h2.an fun a z => (mx_un hx a).mp z⟩
  own := fun y hy t e => by
    rcases List.mem_cons.mp hy with rfl | hy
    · rw [hx] at e; cases e
    · obtain ⟨a, h1, h2, h3⟩ := g.own y hy t e
      exact ⟨a, h1, h2, h3.mv (fun b o eb m => ⟨eb, fun z => m ((mx_un hx b).mp z)⟩) rfl⟩
  fr := fun y hy t a e1 e2 => by
    rcases List.mem_cons.mp hy with rfl | hy
    · rw [e1] at hx; cases hx
    · exact g.fr y hy t a e1 e2
  m0 := fun y hy t a e1 e2 => by
    rcases List.mem_cons.mp hy with rfl | hy
    · rw [e1] at hx; cases hx
    · exact g.m0 y hy t a e1 e2
  inj := List.pairwise_cons.mpr ⟨fun y hy a h _ => (by obtain ⟨⟨t, e⟩, _⟩ := h; rw [hx] at e; cases e), g.inj⟩
  kp := g.kp
  mt := g.mt
  ft := g.ft
  tb := g.tb
theorem Good.cval (g : Good E R H P) (h : Rep E (Mx R P) H v t) : Good E R H ((some v, .val t) :: P) := g.more rfl fun _ e => by cases e; exact ⟨v, rfl, h⟩
theorem Good.trkN (g : Good E R H P) (h : Mx R P a) : HasK H a := by
  rcases h with h | ⟨x, hx, ⟨t, e⟩, ea⟩
  · exact g.ft a h
  · obtain ⟨b, e1, _, e3⟩ := g.own x hx t e
    rw [ea] at e1
    cases e1
    obtain ⟨o, q, q2⟩ := e3
    exact ⟨o, q, q2.nt, fun _ _ => q2.nc⟩
theorem Good.trk (g : Good E R H P) (h : Mx R P a) : H a ≠ none := (g.trkN h).n.nn
theorem Good.h0 (g : Good E R H P) (n : ¬ HasN H a) : ¬ HasN R.H0 a := fun h => n (by
  by_cases m : R.M0 a
  · exact (g.mt a m).n
  · exact g.kp.has h m)
theorem noHas (n : H a = none) : ¬ HasN H a := fun h => h.nn n
/-- a new thing of one's own -/
theorem Good.cown (g : Good E R H P) (n : H a = none) (h : OwnO E (Mx R P) H a t o) : Good E R (upd H a o) ((some (.ref a), .own t) :: P) := by
  have s : Same H (upd H a o) := same_new n
  have g' := g.same s
  have na : ∀ {b u}, H b = some u → b ≠ a := fun e z => by rw [z, n] at e; cases e
  have mv : ∀ b u, H b = some u → ¬ Mx R P b → (upd H a o) b = some u ∧ ¬ Mx R ((some (.ref a), .own t) :: P) b := fun b u e m => ⟨s _ _ e, fun z => by
    rcases (mx_cons b).mp z with ⟨_, z⟩ | z
    · cases z; exact na e rfl
    · exact m z⟩
  refine ⟨fun y hy u e => ?_, fun y hy u e => ?_, fun y hy u b e1 e2 => ?_, fun y hy u b e1 e2 => ?_, List.pairwise_cons.mpr ⟨fun y hy b h1 h2 => ?_, g.inj⟩, g'.kp, g'.mt, g'.ft, g'.tb⟩
  · rcases List.mem_cons.mp hy with rfl | hy
    · cases e
    · obtain ⟨w, h1, h2⟩ := g.val y hy u e
      exact ⟨w, h1, Rep.mv mv _ _ h2⟩
  · rcases List.mem_cons.mp hy with rfl | hy
    · cases e
      exact ⟨a, rfl, fun z => (g.ft a z).n.nn n, o, upd_same, h.mv mv⟩
    · obtain ⟨b, h1, h2, h3⟩ := g.own y hy u e
      obtain ⟨q, hq⟩ := h3.tr
      exact ⟨b, h1, h2, h3.mv mv (by rw [upd_ne (na hq)])⟩
  · rcases List.mem_cons.mp hy with rfl | hy
    · cases e2; exact g.h0 (noHas n)
    · exact g.fr y hy u b e1 e2
  · rcases List.mem_cons.mp hy with rfl | hy
    · cases e1
    · exact g.m0 y hy u b e1 e2
  · obtain ⟨_, z⟩ := h1
    cases z
    exact g.trk (.inr ⟨y, hy, h2⟩) n
/-- what is one's own at a slot -/
theorem Good.hd (g : Good E R H (x :: P)) (e : x.2.own? = some t) : ∃ a, x.1 = some (.ref a) ∧ ¬ R.FB a ∧ ¬ Mx R P a ∧ OwnR E (Mx R (x :: P)) H a t := by
  obtain ⟨a, h1, h2, h3⟩ := g.own x List.mem_cons_self t e
  refine ⟨a, h1, h2, fun z => ?_, h3⟩
  rcases z with z | ⟨y, hy, hz⟩
  · exact h2 z
  · exact (List.pairwise_cons.mp g.inj).1 y hy a ⟨⟨t, e⟩, h1⟩ hz
/-- it is one's own no more -/
theorem Good.frz (g : Good E R H (x :: P)) (e : x.2.own? = some t) : Good E R H ((x.1, .val t) :: P) := by
  obtain ⟨a, h1, h2, h3, h4⟩ := g.hd e
  rw [h1]
  exact g.tail.cval (h4.rep (fun b z => mx_tail z) h3)
/-- it is written: another tree at the same place -/
theorem Good.wr (g : Good E R H (x :: P)) (e : x.2.own? = some t) (ea : x.1 = some (.ref a)) {s' : Sl} (hs : (x.2 = .own t ∧ s' = .own t') ∨ (x.2 = .io t ∧ s' = .io t')) (h : OwnO E (Mx R (x :: P)) H a t' o) : Good E R (upd H a o) ((x.1, s') :: P) := by
  have ho' : s'.own? = some t' := by rcases hs with ⟨_, rfl⟩ | ⟨_, rfl⟩ <;> rfl
  have mx : ∀ b, Mx R ((x.1, s') :: P) b ↔ Mx R (x :: P) b := fun b => by
    rw [mx_cons, mx_cons]
    exact or_congr ⟨fun z => ⟨⟨t, e⟩, z.2⟩, fun z => ⟨⟨t', ho'⟩, z.2⟩⟩ Iff.rfl
  have ma : Mx R (x :: P) a := (mx_cons a).mpr (.inl ⟨⟨t, e⟩, ea⟩)
  have mv : ∀ b u, H b = some u → ¬ Mx R (x :: P) b → (upd H a o) b = some u ∧ ¬ Mx R ((x.1, s') :: P) b := fun b u q m => ⟨by rw [upd_ne fun z => m (by rw [z]; exact ma)]; exact q, fun z => m ((mx b).mp z)⟩
  have nn : ∀ b, H b ≠ none → (upd H a o) b ≠ none := fun b n z => by
    by_cases q : b = a
    · rw [q, upd_same] at z; cases z
    · rw [upd_ne q] at z; exact n z
  obtain ⟨a', q1, q2, q3, q4⟩ := g.hd e
  rw [ea] at q1; cases q1
  refine ⟨fun y hy u e2 => ?_, fun y hy u e2 => ?_, fun y hy u b e1 e2 => ?_, fun y hy u b e1 e2 => ?_, List.pairwise_cons.mpr ⟨fun y hy b h1 h2 => ?_, (List.pairwise_cons.mp g.inj).2⟩, ?_, fun b m => (g.mt b m).up h.nt fun _ _ => h.nc, fun b m => (g.ft b m).up h.nt fun _ _ => h.nc, let ⟨_, q5, q6⟩ := q4; tabs_upd g.tb q5 q6.nt fun _ _ => q6.nc⟩
  · rcases List.mem_cons.mp hy with rfl | hy
    · dsimp only at e2; rw [e2] at ho'; cases ho'
    · obtain ⟨w, h1, h2⟩ := g.val y (List.mem_cons_of_mem _ hy) u e2
      exact ⟨w, h1, Rep.mv mv _ _ h2⟩
  · rcases List.mem_cons.mp hy with rfl | hy
    · dsimp only at e2; rw [ho'] at e2; cases e2
      exact ⟨a, ea, q2, o, upd_same, h.mv mv⟩
    · obtain ⟨b, h1, h2, h3⟩ := g.own y (List.mem_cons_of_mem _ hy) u e2
      exact ⟨b, h1, h2, h3.mv mv (upd_ne fun z => q3 (.inr ⟨y, hy, ⟨u, e2⟩, by rw [h1, z]⟩))⟩
  · rcases List.mem_cons.mp hy with rfl | hy
    · rcases hs with ⟨k1, k2⟩ | ⟨k1, k2⟩
      · exact g.fr x List.mem_cons_self t b k1 e2
      · dsimp only at e1; rw [k2] at e1; cases e1
    · exact g.fr y (List.mem_cons_of_mem _ hy) u b e1 e2
  · rcases List.mem_cons.mp hy with rfl | hy
    · rcases hs with ⟨k1, k2⟩ | ⟨k1, k2⟩
      · dsimp only at e1; rw [k2] at e1; cases e1
      · exact g.m0 x List.mem_cons_self t b k1 e2
    · exact g.m0 y (List.mem_cons_of_mem _ hy) u b e1 e2
  · exact (List.pairwise_cons.mp g.inj).1 y hy b ⟨⟨t, e⟩, h1.2⟩ h2
  · rcases hs with ⟨k1, _⟩ | ⟨k1, _⟩
    · exact g.kp.wn (g.fr x List.mem_cons_self t a k1 ea)
    · exact g.kp.wr (g.m0 x List.mem_cons_self t a k1 ea)
end
end Fn
set_option Elab.async false
set_option linter.all false
set_option maxRecDepth 100000
set_option maxHeartbeats 4000000
/-! own layer, data: the state of a body: locals and a stack of slots -/
namespace Fn
open PySem PySem.Spec PyProof.Rows L2 Rw
/-- the locals, the stack (its top first) -/
structure Z where
  l : List Sl
  k : List Sl
def Sl.live : Sl → Bool
  | .no => false
  | .ali _ => false
  | _ => true
def Sl.isAli : Sl → Bool
  | .ali _ => true
  | _ => false
def Sl.isIo : Sl → Bool
  | .io _ => true
  | _ => false
def Sl.tree : Sl → Option T
  | .val t => some t
  | .own t => some t
  | .io t => some t
  | _ => none
abbrev Pz (σ zs : List (Option V)) (z : Z) : List Pr2 := σ.zip z.l ++ zs.zip z.k
abbrev Mz (R : Rc) (σ zs : List (Option V)) (z : Z) : Addr → Prop := Mx R (Pz σ zs z)
structure ER (E : Ev) (R : Rc) (σ zs : List (Option V)) (H : Hp) (z : Z) : Prop where
  ll : σ.length = z.l.length
  lk : zs.length = z.k.length
  ok : Good E R H (Pz σ zs z)
  al : ∀ w j, (w, Sl.ali j) ∈ zs.zip z.k → σ[j]? = some w ∧ ∃ s, z.l[j]? = some s ∧ s.live = true
  nl : ∀ s ∈ z.l, s.isAli = false
  nk : ∀ s ∈ z.k, s.isIo = false
  io : ∀ (i : Nat) t, z.l[i]? = some (.io t) → σ[i]? = R.s0[i]?
/-- v shows t; a list, a dict, an instance may be one's own -/
def Seen (E : Ev) (M : Addr → Prop) (H : Hp) (v : V) (t : T) : Prop := Rep E M H v t ∨ ∃ a, v = .ref a ∧ OwnR E M H a t
section
variable {E : Ev} {M M' : Addr → Prop} {H H' : Hp} {v : V} {t : T} {ts : List T}
theorem Seen.an (h : Seen E M H v t) (k : ∀ a, M' a → M a) : Seen E M' H v t := h.imp (fun h => h.an k) fun ⟨a, e, h⟩ => ⟨a, e, h.mv (fun b o e m => ⟨e, fun z => m (k b z)⟩) rfl⟩
theorem Seen.same (h : Seen E M H v t) (s : Same H H') : Seen E M H' v t := h.imp (fun h => h.same s) fun ⟨a, e, h⟩ => ⟨a, e, h.mv (fun b o e m => ⟨s _ _ e, m⟩) (h.tr.elim fun o q => by rw [q, s _ _ q])⟩
theorem Seen.rep0 (h : Seen E M H v t) : Rep E (fun _ => False) H v t := by
  rcases h with h | ⟨a, rfl, h⟩
  · exact h.an fun _ z => z.elim
  · exact h.rep (fun _ z => z.elim) fun z => z
theorem Seen.lst (h : Seen E M H v (.lst ts)) : ∃ a xs, v = .ref a ∧ Rd H a (.lst xs) ∧ RepAll E M H xs ts := by
  rcases h with h | ⟨a, rfl, o, e, xs, rfl, h⟩
  · cases h with
    | lst _ h1 h2 => exact ⟨_, _, rfl, .inl h1, h2⟩
  · exact ⟨a, xs, rfl, .inl e, h⟩
theorem Seen.lstM (h : Seen E M H v (.lst ts)) : ∃ a xs, v = .ref a ∧ H a = some (.lst xs) ∧ RepAll E M H xs ts := by
  rcases h with h | ⟨a, rfl, o, e, xs, rfl, h⟩
  · cases h with
    | lst _ h1 h2 => exact ⟨_, _, rfl, h1, h2⟩
  · exact ⟨a, xs, rfl, e, h⟩
theorem Seen.scr (h : Seen E M H v (.scr ts)) : ∃ a xs, v = .ref a ∧ SqL E.K H a xs ∧ RepAll E M H xs ts := by
  rcases h with h | ⟨a, rfl, o, e, h⟩
  · cases h with
    | scr _ h1 h2 => exact ⟨_, _, rfl, .inl (.inr ⟨_, h1⟩), h2⟩
    | kscr h1 h2 => exact ⟨_, _, rfl, .inr h1, h2⟩
  · exact h.elim
theorem Seen.tup (h : Seen E M H v (.tup ts)) : ∃ a xs, v = .ref a ∧ SqT E.K H a xs ∧ RepAll E M H xs ts := by
  rcases h with h | ⟨a, rfl, o, e, h⟩
  · cases h with
    | tup _ h1 h2 => exact ⟨_, _, rfl, .inl h1, h2⟩
    | ktup h1 h2 => exact ⟨_, _, rfl, .inr h1, h2⟩
  · exact h.elim
theorem Seen.int {i : Int} (h : Seen E M H v (.int i)) : v = .int i := by
  rcases h with h | ⟨a, rfl, o, e, h⟩
  · cases h; rfl
  · exact h.elim
theorem Seen.bl {b : Bool} (h : Seen E M H v (.bl b)) : v = .bl b := by
  rcases h with h | ⟨a, rfl, o, e, h⟩
  · cases h; rfl
  · exact h.elim
theorem Seen.str {x : Str} (h : Seen E M H v (.str x)) : v = .str x := by
  rcases h with h | ⟨a, rfl, o, e, h⟩
  · cases h; rfl
  · exact h.elim
theorem Seen.non (h : Seen E M H v .non) : v = .non := by
  rcases h with h | ⟨a, rfl, o, e, h⟩
  · cases h; rfl
  · exact h.elim
theorem Seen.rng {lo hi : Int} (h : Seen E M H v (.rng lo hi)) : ∃ a, v = .ref a ∧ H a = some (.rng lo hi) := by
  rcases h with h | ⟨a, rfl, o, e, h⟩
  · cases h with
    | rng _ h => exact ⟨_, rfl, h⟩
  · exact h.elim
theorem Seen.obj {c : Str} {ns : List Str} (h : Seen E M H v (.obj c ns ts)) : ∃ a dx fs, v = .ref a ∧ H a = some (.ins (E.cl c) dx fs) ∧ fs.map (·.1) = ns ∧ RepAll E M H (fs.map (·.2)) ts := by
  rcases h with h | ⟨a, rfl, o, e, dx, fs, rfl, h1, h2⟩
  · cases h with
    | obj _ h1 h2 => exact ⟨_, _, _, rfl, h1, rfl, h2⟩
  · exact ⟨a, dx, fs, rfl, e, h1, h2⟩
end

section
variable {E : Ev} {R : Rc} {σ zs : List (Option V)} {H H' : Hp} {z z' : Z} {v : V} {s : Sl} {t : T} {a : Addr} {o : HO} {l k : List Sl}
theorem ER.same (e : ER E R σ zs H z) (s : Same H H') : ER E R σ zs H' z := ⟨e.ll, e.lk, e.ok.same s, e.al, e.nl, e.nk, e.io⟩
theorem pz_push (w : Option V) (s : Sl) : ((w, s) :: Pz σ zs ⟨l, k⟩).Perm (Pz σ (w :: zs) ⟨l, s :: k⟩) := (List.perm_middle (l₁ := σ.zip l) (l₂ := zs.zip k) (a := (w, s))).symm
theorem ER.pval (e : ER E R σ zs H ⟨l, k⟩) (h : Rep E (Mz R σ zs ⟨l, k⟩) H v t) : ER E R σ (some v :: zs) H ⟨l, .val t :: k⟩ where
  ll := e.ll
  lk := congrArg (· + 1) e.lk
  ok := (e.ok.cval h).perm (pz_push _ _)
  al := fun w j m => by
    rcases List.mem_cons.mp m with m | m
    · cases m
    · exact e.al w j m
  nl := e.nl
  nk := fun s hs => by
    rcases List.mem_cons.mp hs with rfl | hs
    · rfl
    · exact e.nk s hs
  io := e.io
theorem ER.pown (e : ER E R σ zs H ⟨l, k⟩) (n : H a = none) (h : OwnO E (Mz R σ zs ⟨l, k⟩) H a t o) : ER E R σ (some (.ref a) :: zs) (upd H a o) ⟨l, .own t :: k⟩ where
  ll := e.ll
  lk := congrArg (· + 1) e.lk
  ok := (e.ok.cown n h).perm (pz_push _ _)
  al := fun w j m => by
    rcases List.mem_cons.mp m with m | m
    · cases m
    · exact e.al w j m
  nl := e.nl
  nk := fun s hs => by
    rcases List.mem_cons.mp hs with rfl | hs
    · rfl
    · exact e.nk s hs
  io := e.io
theorem ER.pali {j : Nat} (e : ER E R σ zs H ⟨l, k⟩) (h1 : σ[j]? = some (some v)) (h2 : l[j]? = some s) (h3 : s.live = true) : ER E R σ (some v :: zs) H ⟨l, .ali j :: k⟩ where
  ll := e.ll
  lk := congrArg (· + 1) e.lk
  ok := (e.ok.more (x := (some v, .ali j)) rfl fun _ q => nomatch q).perm (pz_push _ _)
  al := fun w i m => by
    rcases List.mem_cons.mp m with m | m
    · cases m; exact ⟨h1, s, h2, h3⟩
    · exact e.al w i m
  nl := e.nl
  nk := fun s hs => by
    rcases List.mem_cons.mp hs with rfl | hs
    · rfl
    · exact e.nk s hs
  io := e.io
theorem ER.pop {w : Option V} (e : ER E R σ (w :: zs) H ⟨l, s :: k⟩) : ER E R σ zs H ⟨l, k⟩ where
  ll := e.ll
  lk := Nat.succ.inj e.lk
  ok := (e.ok.perm (pz_push _ _).symm).tail
  al := fun w j m => e.al w j (List.mem_cons_of_mem _ m)
  nl := e.nl
  nk := fun s hs => e.nk s (List.mem_cons_of_mem _ hs)
  io := e.io
theorem mz_pop {w : Option V} : ∀ a, Mz R σ zs ⟨l, k⟩ a → Mz R σ (w :: zs) ⟨l, s :: k⟩ a := fun a z => (mx_perm (pz_push w s) a).mp (mx_tail z)
theorem loc_at (hl : σ.length = l.length) {j : Nat} (h : l[j]? = some s) : ∃ w, σ[j]? = some w ∧ (w, s) ∈ σ.zip l := by
  obtain ⟨hj, e⟩ := List.getElem?_eq_some_iff.mp h
  have hj' : j < σ.length := by omega
  refine ⟨σ[j], List.getElem?_eq_getElem hj', ?_⟩
  exact List.mem_iff_getElem?.mpr ⟨j, List.getElem?_zip_eq_some.mpr ⟨List.getElem?_eq_getElem hj', h⟩⟩
/-- a live local -/
theorem ER.loc (e : ER E R σ zs H z) {j : Nat} (h : z.l[j]? = some s) (ht : s.tree = some t) : ∃ v, σ[j]? = some (some v) ∧ Seen E (Mz R σ zs z) H v t := by
  obtain ⟨w, hw, hm⟩ := loc_at e.ll h
  have hm' : (w, s) ∈ Pz σ zs z := List.mem_append_left _ hm
  cases s with
  | val u => cases ht; obtain ⟨v, q1, q2⟩ := e.ok.val _ hm' _ rfl; exact ⟨v, hw.trans (congrArg some q1), .inl q2⟩
  | own u => cases ht; obtain ⟨a, q1, _, q2⟩ := e.ok.own _ hm' _ rfl; exact ⟨_, hw.trans (congrArg some q1), .inr ⟨a, rfl, q2⟩⟩
  | io u => cases ht; obtain ⟨a, q1, _, q2⟩ := e.ok.own _ hm' _ rfl; exact ⟨_, hw.trans (congrArg some q1), .inr ⟨a, rfl, q2⟩⟩
  | no => cases ht
  | ali j => cases ht
/-- what the top of the stack shows; it is dropped -/
def pp : Z → Option (T × Z)
  | ⟨l, .val t :: k⟩ => some (t, ⟨l, k⟩)
  | ⟨l, .own t :: k⟩ => some (t, ⟨l, k⟩)
  | ⟨l, .ali j :: k⟩ => match l[j]? with
    | some s => match s.tree with
      | some t => some (t, ⟨l, k⟩)
      | none => none
    | none => none
  | _ => none
/-- the same, to be kept for ever -/
def fz : Z → Option (T × Z)
  | ⟨l, .val t :: k⟩ => some (t, ⟨l, k⟩)
  | ⟨l, .own t :: k⟩ => some (t, ⟨l, k⟩)
  | ⟨l, .ali j :: k⟩ => match l[j]? with
    | some (.val t) => some (t, ⟨l, k⟩)
    | some (.own t) => some (t, ⟨l.set j (.val t), k⟩)
    | _ => none
  | _ => none
theorem zip_set {α β : Type} {xs : List α} {ys : List β} (j : Nat) {x : α} {y : β} (h1 : xs[j]? = some x) (h2 : ys[j]? = some y) : (xs.zip ys).Perm ((x, y) :: (xs.eraseIdx j).zip (ys.eraseIdx j)) := by
  induction xs generalizing ys j with
  | nil => simp at h1
  | cons a xs ih =>
    cases ys with
    | nil => simp at h2
    | cons b ys =>
      cases j with
      | zero => simp at h1 h2; subst h1; subst h2; exact .refl _
      | succ j =>
        have := ih (ys := ys) j (by simpa using h1) (by simpa using h2)
        exact (this.cons (a, b)).trans (.swap ..)
theorem erase_set {α : Type} (xs : List α) (j : Nat) (x : α) : (xs.set j x).eraseIdx j = xs.eraseIdx j := by
  induction xs generalizing j with
  | nil => rfl
  | cons a xs ih =>
    cases j with
    | zero => rfl
    | succ j => simp [ih]
/-- local j ahead of all else -/
theorem pz_loc {j : Nat} {w : Option V} (h1 : σ[j]? = some w) (h2 : l[j]? = some s) : (Pz σ zs ⟨l, k⟩).Perm ((w, s) :: ((σ.eraseIdx j).zip (l.eraseIdx j) ++ zs.zip k)) := (zip_set j h1 h2).append_right _
theorem pz_set {j : Nat} {w w' : Option V} {s' : Sl} (h1 : σ[j]? = some w) (h2 : l[j]? = some s) : (Pz (σ.set j w') zs ⟨l.set j s', k⟩).Perm ((w', s') :: ((σ.eraseIdx j).zip (l.eraseIdx j) ++ zs.zip k)) := by
  have h3 : (σ.set j w')[j]? = some w' := by rw [List.getElem?_set_self (List.getElem?_eq_some_iff.mp h1).1]
  have h4 : (l.set j s')[j]? = some s' := by rw [List.getElem?_set_self (List.getElem?_eq_some_iff.mp h2).1]
  have := pz_loc (zs := zs) (k := k) h3 h4
  rwa [erase_set, erase_set] at this
theorem pz_set1 {j : Nat} {w : Option V} {s' : Sl} (h1 : σ[j]? = some w) (h2 : l[j]? = some s) : (Pz σ zs ⟨l.set j s', k⟩).Perm ((w, s') :: ((σ.eraseIdx j).zip (l.eraseIdx j) ++ zs.zip k)) := by
  have h4 : (l.set j s')[j]? = some s' := by rw [List.getElem?_set_self (List.getElem?_eq_some_iff.mp h2).1]
  have := pz_loc (zs := zs) (k := k) h1 h4
  rwa [erase_set] at this
/-- an own local is kept from now on -/
theorem ER.frz {j : Nat} (e : ER E R σ zs H ⟨l, k⟩) (h : l[j]? = some (.own t)) : ER E R σ zs H ⟨l.set j (.val t), k⟩ := by
  obtain ⟨w, hw, _⟩ := loc_at e.ll h
  have hj := (List.getElem?_eq_some_iff.mp h).1
  refine ⟨by rw [List.length_set]; exact e.ll, e.lk, ((e.ok.perm (pz_loc hw h)).frz rfl).perm (pz_set1 hw h).symm, fun w i m => ?_, fun s hs => ?_, e.nk, fun i t hi => ?_⟩
  · obtain ⟨h1, s, h2, h3⟩ := e.al w i m
    refine ⟨h1, ?_⟩
    by_cases q : j = i
    · subst q; exact ⟨_, List.getElem?_set_self hj, rfl⟩
    · exact ⟨s, by rw [List.getElem?_set_ne q]; exact h2, h3⟩
  · rcases List.mem_or_eq_of_mem_set hs with hs | rfl
    · exact e.nl s hs
    · rfl
  · by_cases q : j = i
    · subst q; rw [List.getElem?_set_self hj] at hi; cases hi
    · rw [List.getElem?_set_ne q] at hi; exact e.io i t hi
theorem ER.pp {w : Option V} (e : ER E R σ (w :: zs) H z) (h : pp z = some (t, z')) : ∃ v, w = some v ∧ ER E R σ zs H z' ∧ Seen E (Mz R σ zs z') H v t := by
  obtain ⟨l, k⟩ := z
  cases k with
  | nil => cases h
  | cons s k =>
    have top : (w, s) ∈ Pz σ (w :: zs) ⟨l, s :: k⟩ := List.mem_append_right _ List.mem_cons_self
    cases s with
    | val u => cases h; obtain ⟨v, q1, q2⟩ := e.ok.val _ top _ rfl; exact ⟨v, q1, e.pop, .inl (q2.an mz_pop)⟩
    | own u => cases h; obtain ⟨a, q1, _, q2⟩ := e.ok.own _ top _ rfl; exact ⟨_, q1, e.pop, .inr ⟨a, rfl, q2.mv (fun b o eb m => ⟨eb, fun z => m (mz_pop b z)⟩) rfl⟩⟩
    | io u => exact absurd (e.nk _ List.mem_cons_self) (fun z => nomatch z)
    | no => cases h
    | ali j =>
      dsimp only [Fn.pp] at h
      cases q : l[j]? with
      | none => rw [q] at h; cases h
      | some s =>
        rw [q] at h
        dsimp only at h
        cases q2 : s.tree with
        | none => rw [q2] at h; cases h
        | some u =>
          rw [q2] at h
          cases h
          obtain ⟨v, h1, h2⟩ := e.pop.loc q q2
          obtain ⟨h3, _⟩ := e.al w j List.mem_cons_self
          rw [h3] at h1
          exact ⟨v, Option.some.inj h1, e.pop, h2⟩
theorem ER.fz {w : Option V} (e : ER E R σ (w :: zs) H z) (h : fz z = some (t, z')) : ∃ v, w = some v ∧ ER E R σ zs H z' ∧ Rep E (Mz R σ zs z') H v t := by
  obtain ⟨l, k⟩ := z
  cases k with
  | nil => cases h
  | cons s k =>
    have top : (w, s) ∈ Pz σ (w :: zs) ⟨l, s :: k⟩ := List.mem_append_right _ List.mem_cons_self
    cases s with
    | val u => cases h; obtain ⟨v, q1, q2⟩ := e.ok.val _ top _ rfl; exact ⟨v, q1, e.pop, q2.an mz_pop⟩
    | own u =>
      cases h
      obtain ⟨a, q1, q2, q3, q4⟩ := (e.ok.perm (pz_push _ _).symm).hd (t := t) rfl
      exact ⟨_, q1, e.pop, q4.rep (fun b z => mx_tail z) q3⟩
    | io u => exact absurd (e.nk _ List.mem_cons_self) (fun z => nomatch z)
    | no => cases h
    | ali j =>
      dsimp only [Fn.fz] at h
      obtain ⟨h3, _⟩ := e.al w j List.mem_cons_self
      cases q : l[j]? with
      | none => rw [q] at h; cases h
      | some s =>
        rw [q] at h
        cases s with
        | val u =>
          cases h
          obtain ⟨v, h1, h2⟩ := e.pop.loc q rfl
          rw [h3] at h1
          refine ⟨v, Option.some.inj h1, e.pop, ?_⟩
          obtain ⟨w', hw, hm⟩ := loc_at e.ll q
          obtain ⟨v', q1, q2⟩ := e.pop.ok.val _ (List.mem_append_left _ hm) _ rfl
          rw [h3] at hw
          cases hw
          dsimp only at q1
          rw [Option.some.inj h1] at q1
          cases q1
          exact q2
        | own u =>
          cases h
          have e2 := e.pop.frz q
          have hj := (List.getElem?_eq_some_iff.mp q).1
          obtain ⟨w', hw, hm⟩ := loc_at e2.ll (List.getElem?_set_self (a := Sl.val t) hj)
          obtain ⟨v', q1, q2⟩ := e2.ok.val _ (List.mem_append_left _ hm) _ rfl
          rw [h3] at hw
          cases hw
          exact ⟨v', q1, e2, q2⟩
        | io u => cases h
        | no => cases h
        | ali j => cases h
end
end Fn
set_option Elab.async false
set_option linter.all false
set_option maxRecDepth 100000
set_option maxHeartbeats 4000000
/-! own layer, data: readings that are functions of the slots -/
namespace Fn
open PySem PySem.Spec PyProof.Rows L2 Rw
abbrev EF := Z → Option Z
abbrev TF := Z → Option (Bool × Z)
/-- what comes of an operation: a tree that stays, or a new thing of one's own -/
def Res (E : Ev) (M : Addr → Prop) (H H' : Hp) (v : V) : Sl → Prop
  | .val t => Same H H' ∧ Rep E M H' v t
  | .own t => ∃ p o H1, Same H H1 ∧ H1 p = none ∧ v = .ref p ∧ H' = upd H1 p o ∧ OwnO E M H1 p t o
  | _ => False
section
variable {E : Ev} {R : Rc} {σ zs : List (Option V)} {H H' : Hp} {z z' : Z} {v : V} {s : Sl} {t : T} {l k : List Sl}
theorem ER.trk (e : ER E R σ zs H z) (a : Addr) (h : Mz R σ zs z a) : H a ≠ none := e.ok.trk h
theorem ER.pres (e : ER E R σ zs H ⟨l, k⟩) (h : Res E (Mz R σ zs ⟨l, k⟩) H H' v s) : ER E R σ (some v :: zs) H' ⟨l, s :: k⟩ := by
  cases s with
  | val t => exact (e.same h.1).pval h.2
  | own t => obtain ⟨p, o, H1, h1, h2, rfl, rfl, h3⟩ := h; exact (e.same h1).pown h2 h3
  | _ => exact h.elim
theorem res_same {M : Addr → Prop} (s : Same H H') (h : Rep E M H' v t) : Res E M H H' v (.val t) := ⟨s, h⟩
theorem res_v {M : Addr → Prop} (h : Rep E M H v t) : Res E M H H v (.val t) := ⟨fun _ _ e => e, h⟩
theorem res_l {M : Addr → Prop} {p : Addr} {xs : List V} {ts : List T} (n : H p = none) (h : RepAll E M H xs ts) : Res E M H (upd H p (.lst xs)) (.ref p) (.own (.lst ts)) := ⟨p, _, H, fun _ _ e => e, n, rfl, rfl, xs, rfl, h⟩
theorem res_t {M : Addr → Prop} {p : Addr} {xs : List V} {ts : List T} (k : ∀ a, M a → H a ≠ none) (n : H p = none) (h : RepAll E M H xs ts) : Res E M H (upd H p (.tup xs)) (.ref p) (.val (.tup ts)) :=
  ⟨same_new n, .tup (fun z => k p z n) (.inl upd_same) (h.same (same_new n))⟩
end

/-- the reading's frame is the code's -/
class EX (X : Cx) (E : Ev) : Prop where
  k : E.K = X.K
  w : E.w = X.w
theorem EX.t {X : Cx} {E : Ev} [ex : EX X E] {H : Hp} {a : Addr} {xs : List V} (h : SqT E.K H a xs) : SqT X.K H a xs := ex.k ▸ h
/-! ### expressions -/
def tE (E : Ev) (f : EF) : TE := fun σ H Q => ∃ R zs z z', ER E R σ zs H z ∧ f z = some z' ∧ ∀ v H', ER E R σ (some v :: zs) H' z' → Q v H'
def tT (E : Ev) (f : TF) : TT := fun σ H Q => ∃ R zs z b z', ER E R σ zs H z ∧ f z = some (b, z') ∧ ∀ H', ER E R σ zs H' z' → Q b H'
def tA (E : Ev) (f : EF) (n : Nat) : TA := fun σ H Q => ∃ R zs z z', ER E R σ zs H z ∧ f z = some z' ∧ ∀ vs H', vs.length = n → ER E R σ (vs.reverse.map some ++ zs) H' z' → Q vs H'
structure ED (X : Cx) (E : Ev) (e : Expr) (f : EF) : Prop where
  pe : PE X e (tE E f)
structure TD (X : Cx) (E : Ev) (e : Expr) (f : TF) : Prop where
  pt : PT X e (tT E f)
structure AD (X : Cx) (E : Ev) (es : List Expr) (f : EF) : Prop where
  pa : PA X es (tA E f es.length)
section
variable {X : Cx} {E : Ev} {e a b : Expr} {es : List Expr} {pos : Pos}
theorem pe_imp {t t' : TE} (h : PE X e t) (k : ∀ σ H Q, t' σ H Q → t σ H Q) : PE X e t' := ⟨fun pins s σ H Q I q => h.run pins s σ H Q I (k σ H Q q)⟩
theorem pt_imp {t t' : TT} (h : PT X e t) (k : ∀ σ H Q, t' σ H Q → t σ H Q) : PT X e t' := ⟨fun pins s σ H Q I q => h.run pins s σ H Q I (k σ H Q q)⟩
theorem pa_imp {t t' : TA} (h : PA X es t) (k : ∀ σ H Q, t' σ H Q → t σ H Q) : PA X es t' := ⟨fun pos pins s σ H Q I q => h.run pos pins s σ H Q I (k σ H Q q)⟩
/-- a tree that is written, or a name of the module's -/
def fC (t : T) : EF := fun z => some ⟨z.l, .val t :: z.k⟩
theorem ed_C {v : V} {t : T} (h : PE X e (tC v)) (r : ∀ M H, Rep E M H v t) : ED X E e (fC t) := ⟨pe_imp h fun σ H Q ⟨R, zs, ⟨l, k⟩, z', er, q, c⟩ => by
  cases q
  exact c v H (er.pval (r _ _))⟩
theorem ed_int {i j} : ED X E (.Constant (.int i) j pos) (fC (.int i)) := ed_C pe_int fun _ _ => .int _
theorem ed_bl {b j} : ED X E (.Constant (.bool b) j pos) (fC (.bl b)) := ed_C pe_bl fun _ _ => .bl _
theorem ed_non {j} : ED X E (.Constant .none j pos) (fC .non) := ed_C pe_non fun _ _ => .non
theorem ed_str {x j} : ED X E (.Constant (.str x) j pos) (fC (.str x)) := ed_C pe_str fun _ _ => .str _
/-- a local -/
def fV (i : Nat) : EF := fun z => match z.l[i]? with
  | some (.val t) => some ⟨z.l, .val t :: z.k⟩
  | some (.own _) => some ⟨z.l, .ali i :: z.k⟩
  | some (.io _) => some ⟨z.l, .ali i :: z.k⟩
  | _ => none
theorem ed_V {i : Nat} (h : PE X e (tVar i)) : ED X E e (fV i) := ⟨pe_imp h fun σ H Q ⟨R, zs, ⟨l, k⟩, z', er, q, c⟩ => by
  unfold fV at q
  cases h : l[i]? with
  | none => rw [show (Z.mk l k).l[i]? = none from h] at q; cases q
  | some s =>
    rw [show (Z.mk l k).l[i]? = some s from h] at q
    cases s with
    | val t =>
      cases q
      obtain ⟨w, hw, hm⟩ := loc_at er.ll h
      obtain ⟨v, q1, q2⟩ := er.ok.val _ (List.mem_append_left _ hm) _ rfl
      exact ⟨v, hw.trans (congrArg some q1), c v H (er.pval q2)⟩
    | own t => cases q; obtain ⟨v, q1, q2⟩ := er.loc h rfl; exact ⟨v, q1, c v H (er.pali q1 h rfl)⟩
    | io t => cases q; obtain ⟨v, q1, q2⟩ := er.loc h rfl; exact ⟨v, q1, c v H (er.pali q1 h rfl)⟩
    | no => cases q
    | ali j => cases q⟩
/-! arguments -/
def f0 : EF := some
def f2 (f g : EF) : EF := fun z => (f z).bind g
theorem ad_nil : AD X E [] f0 := ⟨pa_imp pa_nil fun σ H Q ⟨R, zs, z, z', er, q, c⟩ => by cases q; exact c [] H rfl er⟩
theorem ad_cons {f g : EF} (ha : ED X E e f) (hr : AD X E es g) (hs : starEach (e :: es) X.env = (false, eval e X.env) :: starEach es X.env := by rfl) : AD X E (e :: es) (f2 f g) :=
  ⟨pa_imp (pa_cons ha.pe hr.pa hs) fun σ H Q ⟨R, zs, z, z', er, q, c⟩ => by
    obtain ⟨z1, q1, q2⟩ := Option.bind_eq_some_iff.mp q
    exact ⟨R, zs, z, z1, er, q1, fun x H1 e1 => ⟨R, _, z1, z', e1, q2, fun xs H2 hl e2 => c (x :: xs) H2 (by rw [List.length_cons, hl]; rfl) (by simpa using e2)⟩⟩⟩
/-- n seen trees off the stack -/
def ppN : Nat → Z → Option (List T × Z)
  | 0, z => some ([], z)
  | n + 1, z => (pp z).bind fun y => (ppN n y.2).bind fun ys => some (ys.1 ++ [y.1], ys.2)
def fzN : Nat → Z → Option (List T × Z)
  | 0, z => some ([], z)
  | n + 1, z => (fz z).bind fun y => (fzN n y.2).bind fun ys => some (ys.1 ++ [y.1], ys.2)
abbrev SeenAll (E : Ev) (M : Addr → Prop) (H : Hp) : List V → List T → Prop := Paired (Seen E M H)
theorem paired_app {α β : Type} {F : α → β → Prop} : ∀ {xs ys : List α} {us ws : List β}, Paired F xs us → Paired F ys ws → Paired F (xs ++ ys) (us ++ ws)
  | _, _, _, _, .nil, s => s
  | _, _, _, _, .cons r t, s => .cons r (paired_app t s)
theorem ER.ppN {R : Rc} {σ zs : List (Option V)} {H : Hp} : ∀ {vs : List V} {z z' : Z} {ts : List T}, ER E R σ (vs.map some ++ zs) H z → Fn.ppN vs.length z = some (ts, z') → ER E R σ zs H z' ∧ SeenAll E (Mz R σ zs z') H vs.reverse ts
  | [], z, z', ts, e, q => by cases q; exact ⟨e, .nil⟩
  | v :: vs, z, z', ts, e, q => by
    obtain ⟨⟨t, z1⟩, q1, q2⟩ := Option.bind_eq_some_iff.mp q
    obtain ⟨⟨ys, z2⟩, q3, q4⟩ := Option.bind_eq_some_iff.mp q2
    cases q4
    obtain ⟨v', h1, h2, h3⟩ := ER.pp e q1
    cases h1
    obtain ⟨h4, h5⟩ := ER.ppN h2 q3
    refine ⟨h4, ?_⟩
    rw [List.reverse_cons]
    refine paired_app h5 (.cons (h3.an ?_) .nil)
    intro a m
    exact ppN_mx h2 q3 a m
where
  ppN_mx {R : Rc} {σ zs : List (Option V)} {H : Hp} : ∀ {vs : List V} {z z' : Z} {ts : List T}, ER E R σ (vs.map some ++ zs) H z → Fn.ppN vs.length z = some (ts, z') → ∀ a, Mz R σ zs z' a → Mz R σ (vs.map some ++ zs) z a
    | [], z, z', ts, e, q => by cases q; exact fun _ h => h
    | v :: vs, z, z', ts, e, q => by
      obtain ⟨⟨t, z1⟩, q1, q2⟩ := Option.bind_eq_some_iff.mp q
      obtain ⟨⟨ys, z2⟩, q3, q4⟩ := Option.bind_eq_some_iff.mp q2
      cases q4
      obtain ⟨v', h1, h2, h3⟩ := ER.pp e q1
      intro a m
      exact pp_mx q1 a (ppN_mx h2 q3 a m)
  pp_mx {R : Rc} {σ zs : List (Option V)} {w : Option V} {z z' : Z} {t : T} (q : Fn.pp z = some (t, z')) : ∀ a, Mz R σ zs z' a → Mz R σ (w :: zs) z a := by
    obtain ⟨l, k⟩ := z
    cases k with
    | nil => cases q
    | cons s k =>
      have : z' = ⟨l, k⟩ := by
        cases s with
        | ali j =>
          dsimp only [Fn.pp] at q
          split at q
          · split at q
            · cases q; rfl
            · cases q
          · cases q
        | _ => cases q <;> rfl
      subst this
      exact mz_pop
end
end Fn
set_option Elab.async false
set_option linter.all false
set_option maxRecDepth 100000
set_option maxHeartbeats 4000000
namespace Fn
open PySem PySem.Spec PyProof.Rows L2 Rw
section
variable {E : Ev} {R : Rc} {σ zs : List (Option V)} {H H' : Hp} {z z' : Z} {v : V} {s : Sl} {t : T} {l k : List Sl} {w : Option V}
theorem fz_mx (e : ER E R σ (w :: zs) H z) (q : Fn.fz z = some (t, z')) : ∀ a, Mz R σ zs z' a → Mz R σ (w :: zs) z a := by
  obtain ⟨l, k⟩ := z
  cases k with
  | nil => cases q
  | cons s k =>
    cases s with
    | ali j =>
      dsimp only [Fn.fz] at q
      cases h : l[j]? with
      | none => rw [h] at q; cases q
      | some s =>
        rw [h] at q
        cases s with
        | val t => cases q; exact mz_pop
        | own t =>
          cases q
          obtain ⟨w', hw, _⟩ := loc_at e.ll h
          intro a m
          refine mz_pop a ?_
          refine (mx_perm (pz_loc hw h) a).mpr (mx_tail ?_)
          exact (mx_un (x := (w', Sl.val t)) rfl a).mp ((mx_perm (pz_set1 hw h) a).mp m)
        | _ => cases q
    | val t => cases q; exact mz_pop
    | own t => cases q; exact mz_pop
    | _ => cases q
theorem fzN_mx : ∀ {vs : List V} {z z' : Z} {ts : List T}, ER E R σ (vs.map some ++ zs) H z → Fn.fzN vs.length z = some (ts, z') → ∀ a, Mz R σ zs z' a → Mz R σ (vs.map some ++ zs) z a
  | [], z, z', ts, e, q => by cases q; exact fun _ h => h
  | v :: vs, z, z', ts, e, q => by
    obtain ⟨⟨t, z1⟩, q1, q2⟩ := Option.bind_eq_some_iff.mp q
    obtain ⟨⟨ys, z2⟩, q3, q4⟩ := Option.bind_eq_some_iff.mp q2
    cases q4
    obtain ⟨v', h1, h2, h3⟩ := ER.fz e q1
    intro a m
    exact fz_mx e q1 a (fzN_mx h2 q3 a m)
theorem ER.fzN : ∀ {vs : List V} {z z' : Z} {ts : List T}, ER E R σ (vs.map some ++ zs) H z → Fn.fzN vs.length z = some (ts, z') → ER E R σ zs H z' ∧ RepAll E (Mz R σ zs z') H vs.reverse ts
  | [], z, z', ts, e, q => by cases q; exact ⟨e, .nil⟩
  | v :: vs, z, z', ts, e, q => by
    obtain ⟨⟨t, z1⟩, q1, q2⟩ := Option.bind_eq_some_iff.mp q
    obtain ⟨⟨ys, z2⟩, q3, q4⟩ := Option.bind_eq_some_iff.mp q2
    cases q4
    obtain ⟨v', h1, h2, h3⟩ := ER.fz e q1
    cases h1
    obtain ⟨h4, h5⟩ := ER.fzN h2 q3
    refine ⟨h4, ?_⟩
    rw [List.reverse_cons]
    exact RepAll.app h5 (.cons (h3.an (fzN_mx h2 q3)) .nil)
theorem ER.ppA {vs : List V} {n : Nat} {ts : List T} (hl : vs.length = n) (e : ER E R σ (vs.reverse.map some ++ zs) H z) (q : Fn.ppN n z = some (ts, z')) : ER E R σ zs H z' ∧ SeenAll E (Mz R σ zs z') H vs ts := by
  have := ER.ppN e (by rw [List.length_reverse, hl]; exact q)
  rwa [List.reverse_reverse] at this
theorem ER.fzA {vs : List V} {n : Nat} {ts : List T} (hl : vs.length = n) (e : ER E R σ (vs.reverse.map some ++ zs) H z) (q : Fn.fzN n z = some (ts, z')) : ER E R σ zs H z' ∧ RepAll E (Mz R σ zs z') H vs ts := by
  have := ER.fzN e (by rw [List.length_reverse, hl]; exact q)
  rwa [List.reverse_reverse] at this
end
section
variable {X : Cx} {E : Ev} {e a b c : Expr} {es : List Expr} {pos : Pos} {f g h : EF}
/-! displays -/
def fit (ts : List T) : Bool := Nat.ble ts.length sizeLine
def fTup (n : Nat) (f : EF) : EF := fun z => (f z).bind fun z1 => (fzN n z1).bind fun x => if fit x.1 = true then some ⟨x.2.l, .val (.tup x.1) :: x.2.k⟩ else none
def fLst (n : Nat) (f : EF) : EF := fun z => (f z).bind fun z1 => (fzN n z1).bind fun x => if fit x.1 = true then some ⟨x.2.l, .own (.lst x.1) :: x.2.k⟩ else none
theorem ite_some' {α : Type} {c : Bool} {x y : α} (h : (if c = true then some x else none) = some y) : c = true ∧ x = y := by
  cases c with
  | true => cases h; exact ⟨rfl, rfl⟩
  | false => cases h
theorem ed_tup {x1} (ha : AD X E es f) : ED X E (.Tuple es x1 pos) (fTup es.length f) := ⟨pe_imp (pe_tup ha.pa) fun σ H Q ⟨R, zs, z, z', er, q, c⟩ => by
  obtain ⟨z1, q1, q2⟩ := Option.bind_eq_some_iff.mp q
  obtain ⟨⟨ts, l, k⟩, q3, q4⟩ := Option.bind_eq_some_iff.mp q2
  obtain ⟨q5, q6⟩ := ite_some' q4
  subst q6
  refine ⟨R, zs, z, z1, er, q1, fun vs H1 hl e1 => ?_⟩
  obtain ⟨e2, r⟩ := e1.fzA hl q3
  refine ⟨by rw [r.len]; exact Nat.le_of_ble_eq_true q5, fun p n => c _ _ (e2.pres (res_t e2.trk n r))⟩⟩
theorem ed_lst (ha : AD X E es f) : ED X E (.List es pos) (fLst es.length f) := ⟨pe_imp (pe_lst ha.pa) fun σ H Q ⟨R, zs, z, z', er, q, c⟩ => by
  obtain ⟨z1, q1, q2⟩ := Option.bind_eq_some_iff.mp q
  obtain ⟨⟨ts, l, k⟩, q3, q4⟩ := Option.bind_eq_some_iff.mp q2
  obtain ⟨q5, q6⟩ := ite_some' q4
  subst q6
  refine ⟨R, zs, z, z1, er, q1, fun vs H1 hl e1 => ?_⟩
  obtain ⟨e2, r⟩ := e1.fzA hl q3
  refine ⟨by rw [r.len]; exact Nat.le_of_ble_eq_true q5, fun p n => c _ _ (e2.pres (res_l n r))⟩⟩
/-! operations of two -/
abbrev O2 := T → T → Option Sl
def Ok2 (E : Ev) (r : R2) (op : O2) : Prop := ∀ (M : Addr → Prop) (H : Hp) x y tx ty s Q, (∀ a, M a → H a ≠ none) → Seen E M H x tx → Seen E M H y ty → op tx ty = some s → (∀ v H', Res E M H H' v s → Q v H') → r x y H Q
def o2 (op : O2) (z : Z) : Option Z := (pp z).bind fun y => (pp y.2).bind fun x => (op x.1 y.1).bind fun s => some ⟨x.2.l, s :: x.2.k⟩
theorem o2_ok {r : R2} {op : O2} (ho : Ok2 E r op) {R : Rc} {σ zs : List (Option V)} {H : Hp} {x y : V} {z z' : Z} {Q : VK} (e : ER E R σ (some y :: some x :: zs) H z) (q : o2 op z = some z') (c : ∀ v H', ER E R σ (some v :: zs) H' z' → Q v H') : r x y H Q := by
  obtain ⟨⟨ty, z1⟩, q1, q2⟩ := Option.bind_eq_some_iff.mp q
  obtain ⟨⟨tx, z2⟩, q3, q4⟩ := Option.bind_eq_some_iff.mp q2
  obtain ⟨s, q5, q6⟩ := Option.bind_eq_some_iff.mp q4
  cases q6
  obtain ⟨_, h1, e1, r1⟩ := e.pp q1
  cases h1
  obtain ⟨_, h1, e2, r2⟩ := e1.pp q3
  cases h1
  exact ho _ H x y tx ty s Q e2.trk r2 (r1.an (ER.ppN.pp_mx q3)) q5 fun v H' h => c v H' (ER.pres (l := z2.l) (k := z2.k) e2 h)
def fB (op : O2) (f g : EF) : EF := fun z => (f z).bind fun z1 => (g z1).bind (o2 op)
theorem fB_ok {r : R2} {op : O2} (ho : Ok2 E r op) (σ : L2.St) (H : Hp) (Q : VK) (h : tE E (fB op f g) σ H Q) : tOp r (tE E f) (tE E g) σ H Q := by
  obtain ⟨R, zs, z, z', er, q, c⟩ := h
  obtain ⟨z1, q1, q2⟩ := Option.bind_eq_some_iff.mp q
  obtain ⟨z2, q3, q4⟩ := Option.bind_eq_some_iff.mp q2
  exact ⟨R, zs, z, z1, er, q1, fun x H1 e1 => ⟨R, _, z1, z2, e1, q3, fun y H2 e2 => o2_ok ho e2 q4 c⟩⟩
theorem ed_op {op : Operator} {r : R2} {o : O2} (hr : OpR X (binaryOp op) r) (ho : Ok2 E r o) (ha : ED X E a f) (hb : ED X E b g) : ED X E (.BinOp a op b pos) (fB o f g) := ⟨pe_imp (pe_op hr ha.pe hb.pe) (fB_ok ho)⟩
theorem ed_cmp {op : CmpOp} {r : R2} {o : O2} (hr : OpR X (compareOp op) r) (ho : Ok2 E r o) (ha : ED X E a f) (hb : ED X E b g) (hm : behindInMarks op b = false) : ED X E (.Compare a [op] [b] pos) (fB o f g) := ⟨pe_imp (pe_cmpR hr ha.pe hb.pe hm) (fB_ok ho)⟩
theorem ed_ix {r : R2} {o : O2} (hr : IxR X r) (ho : Ok2 E r o) (ha : ED X E a f) (hb : ED X E b g) (hs : PlainIx b) : ED X E (.Subscript a b pos) (fB o f g) := ⟨pe_imp (pe_ix hr ha.pe hb.pe hs) (fB_ok ho)⟩
/-- a bool on the stack -/
def pb (z : Z) : Option (Bool × Z) := match pp z with
  | some (.bl b, z1) => some (b, z1)
  | _ => none
theorem ER.pb {R : Rc} {σ zs : List (Option V)} {H : Hp} {x : V} {z z' : Z} {b : Bool} (e : ER E R σ (some x :: zs) H z) (q : Fn.pb z = some (b, z')) : x = .bl b ∧ ER E R σ zs H z' := by
  unfold Fn.pb at q
  split at q
  · rename_i b1 z1 h
    cases q
    obtain ⟨_, h1, e1, r1⟩ := e.pp h
    cases h1
    exact ⟨r1.bl, e1⟩
  · cases q
def gE (f : EF) : TF := fun z => (f z).bind pb
theorem td_val (ha : ED X E a f) (h : ∀ {t : TE}, PE X a t → PT X a (tTest t)) : TD X E a (gE f) := ⟨pt_imp (h ha.pe) fun σ H Q ⟨R, zs, z, b, z', er, q, c⟩ => by
  obtain ⟨z1, q1, q2⟩ := Option.bind_eq_some_iff.mp q
  exact ⟨R, zs, z, z1, er, q1, fun x H1 e1 => let ⟨h1, h2⟩ := e1.pb q2; ⟨b, h1, c H1 h2⟩⟩⟩
theorem td_cmp {op : CmpOp} {r : R2} {o : O2} (hr : OpR X (compareOp op) r) (ho : Ok2 E r o) (ha : ED X E a f) (hb : ED X E b g) (hm : behindInMarks op b = false) : TD X E (.Compare a [op] [b] pos) (gE (fB o f g)) := ⟨pt_imp (pt_cmpR hr ha.pe hb.pe hm) fun σ H Q ⟨R, zs, z, b, z', er, q, c⟩ => by
  obtain ⟨z1, q1, q2⟩ := Option.bind_eq_some_iff.mp q
  refine fB_ok ho σ H _ ⟨R, zs, z, z1, er, q1, fun x H1 e1 => ?_⟩
  obtain ⟨h1, h2⟩ := e1.pb q2
  exact ⟨b, h1, c H1 h2⟩⟩
/-! and, or, not, if-else -/
def gAnd (f g : TF) : TF := fun z => (f z).bind fun x => if x.1 = true then g x.2 else some (false, x.2)
def gOr (f g : TF) : TF := fun z => (f z).bind fun x => if x.1 = true then some (true, x.2) else g x.2
def gNot (f : TF) : TF := fun z => (f z).bind fun x => some (!x.1, x.2)
def fIf (p : TF) (f g : EF) : EF := fun z => (p z).bind fun x => if x.1 = true then f x.2 else g x.2
def fBool (f : TF) : EF := fun z => (f z).bind fun x => some ⟨x.2.l, .val (.bl x.1) :: x.2.k⟩
theorem ed_if {p : TF} (hc : TD X E c p) (ha : ED X E a f) (hb : ED X E b g) : ED X E (.IfExp c a b pos) (fIf p f g) := ⟨pe_imp (pe_ifExp hc.pt ha.pe hb.pe) fun σ H Q ⟨R, zs, z, z', er, q, c⟩ => by
  obtain ⟨⟨b, z1⟩, q1, q2⟩ := Option.bind_eq_some_iff.mp q
  refine ⟨R, zs, z, b, z1, er, q1, fun H1 e1 => ?_⟩
  cases b with
  | true => exact ⟨R, zs, z1, z', e1, q2, c⟩
  | false => exact ⟨R, zs, z1, z', e1, q2, c⟩⟩
structure WD (X : Cx) (E : Ev) (e : Expr) (f : TF) : Prop where
  pw : PW X e (tT E f)
theorem WD.td {p : TF} (h : WD X E a p) : TD X E a p := ⟨h.pw.pt⟩
end
end Fn
set_option Elab.async false
set_option linter.all false
set_option maxRecDepth 100000
set_option maxHeartbeats 4000000
namespace Fn
open PySem PySem.Spec PyProof.Rows L2 Rw
section
variable {X : Cx} {E : Ev} [EX X E] {e a b c : Expr} {es : List Expr} {pos : Pos} {f g h : EF} {p q : TF}
/-! tests -/
theorem td_not (ha : TD X E a p) : TD X E (.UnaryOp .Not a pos) (gNot p) := ⟨pt_imp (pt_not ha.pt) fun σ H Q ⟨R, zs, z, b, z', er, q, c⟩ => by
  obtain ⟨⟨b1, z1⟩, q1, q2⟩ := Option.bind_eq_some_iff.mp q
  cases q2
  exact ⟨R, zs, z, b1, z1, er, q1, c⟩⟩
theorem pw_imp {t t' : TT} (h : PW X e t) (k : ∀ σ H Q, t' σ H Q → t σ H Q) : PW X e t' := ⟨fun w pins s σ H Q I q => h.run w pins s σ H Q I (k σ H Q q)⟩
theorem wd_and1 (ha : TD X E a p) : WD X E (.BoolOp .And [a] pos) p := ⟨pw_and1 ha.pt⟩
theorem wd_or1 (ha : TD X E a p) : WD X E (.BoolOp .Or [a] pos) p := ⟨pw_or1 ha.pt⟩
theorem wd_and {rest : List Expr} (ha : TD X E a p) (hb : WD X E (.BoolOp .And (b :: rest) pos) q) : WD X E (.BoolOp .And (a :: b :: rest) pos) (gAnd p q) := ⟨pw_imp (pw_and ha.pt hb.pw) fun σ H Q ⟨R, zs, z, b, z', er, h, c⟩ => by
  obtain ⟨⟨b1, z1⟩, q1, q2⟩ := Option.bind_eq_some_iff.mp h
  refine ⟨R, zs, z, b1, z1, er, q1, fun H1 e1 => ?_⟩
  cases b1 with
  | true => exact ⟨R, zs, z1, b, z', e1, q2, c⟩
  | false => cases q2; exact c H1 e1⟩
theorem wd_or {rest : List Expr} (ha : TD X E a p) (hb : WD X E (.BoolOp .Or (b :: rest) pos) q) : WD X E (.BoolOp .Or (a :: b :: rest) pos) (gOr p q) := ⟨pw_imp (pw_or ha.pt hb.pw) fun σ H Q ⟨R, zs, z, b, z', er, h, c⟩ => by
  obtain ⟨⟨b1, z1⟩, q1, q2⟩ := Option.bind_eq_some_iff.mp h
  refine ⟨R, zs, z, b1, z1, er, q1, fun H1 e1 => ?_⟩
  cases b1 with
  | true => cases q2; exact c H1 e1
  | false => exact ⟨R, zs, z1, b, z', e1, q2, c⟩⟩
/-- and, or of bools as values -/
def fAnd (f g : EF) : EF := fun z => (gE f z).bind fun x => if x.1 = true then g x.2 else some ⟨x.2.l, .val (.bl false) :: x.2.k⟩
def fOr (f g : EF) : EF := fun z => (gE f z).bind fun x => if x.1 = true then some ⟨x.2.l, .val (.bl true) :: x.2.k⟩ else g x.2
def fNot (f : EF) : EF := fun z => (gE f z).bind fun x => some ⟨x.2.l, .val (.bl !x.1) :: x.2.k⟩
theorem ed_one {op} (ha : ED X E a f) : ED X E (.BoolOp op [a] pos) f := ⟨pe_one ha.pe⟩
theorem ed_and {rest : List Expr} (ha : ED X E a f) (hb : ED X E (.BoolOp .And (b :: rest) pos) g) : ED X E (.BoolOp .And (a :: b :: rest) pos) (fAnd f g) := ⟨pe_imp (pe_and ha.pe hb.pe) fun σ H Q ⟨R, zs, z, z', er, h, c⟩ => by
  obtain ⟨⟨b1, z2⟩, q1, q2⟩ := Option.bind_eq_some_iff.mp h
  obtain ⟨z1, q3, q4⟩ := Option.bind_eq_some_iff.mp q1
  refine ⟨R, zs, z, z1, er, q3, fun x H1 e1 => ?_⟩
  obtain ⟨h1, h2⟩ := e1.pb q4
  refine ⟨b1, h1, ?_⟩
  cases b1 with
  | true => exact ⟨R, zs, z2, z', h2, q2, c⟩
  | false => cases q2; exact c _ _ (h2.pval (.bl _))⟩
theorem ed_or {rest : List Expr} (ha : ED X E a f) (hb : ED X E (.BoolOp .Or (b :: rest) pos) g) : ED X E (.BoolOp .Or (a :: b :: rest) pos) (fOr f g) := ⟨pe_imp (pe_or ha.pe hb.pe) fun σ H Q ⟨R, zs, z, z', er, h, c⟩ => by
  obtain ⟨⟨b1, z2⟩, q1, q2⟩ := Option.bind_eq_some_iff.mp h
  obtain ⟨z1, q3, q4⟩ := Option.bind_eq_some_iff.mp q1
  refine ⟨R, zs, z, z1, er, q3, fun x H1 e1 => ?_⟩
  obtain ⟨h1, h2⟩ := e1.pb q4
  refine ⟨b1, h1, ?_⟩
  cases b1 with
  | true => cases q2; exact c _ _ (h2.pval (.bl _))
  | false => exact ⟨R, zs, z2, z', h2, q2, c⟩⟩
theorem ed_not (ha : ED X E a f) : ED X E (.UnaryOp .Not a pos) (fNot f) := ⟨pe_imp (pe_not ha.pe) fun σ H Q ⟨R, zs, z, z', er, h, c⟩ => by
  obtain ⟨⟨b1, z2⟩, q1, q2⟩ := Option.bind_eq_some_iff.mp h
  obtain ⟨z1, q3, q4⟩ := Option.bind_eq_some_iff.mp q1
  cases q2
  refine ⟨R, zs, z, z1, er, q3, fun x H1 e1 => ?_⟩
  obtain ⟨h1, h2⟩ := e1.pb q4
  exact ⟨b1, h1, c _ _ (h2.pval (.bl _))⟩⟩
/-- the truth of a thing -/
def T.tr : T → Option Bool
  | .non => some false
  | .bl b => some b
  | .int i => some (i != 0)
  | .lst ts => some (!ts.isEmpty)
  | .tup ts => some (!ts.isEmpty)
  | _ => none
def pt (z : Z) : Option (Bool × Z) := (pp z).bind fun x => x.1.tr.map fun b => (b, x.2)
def gTr (f : EF) : TF := fun z => (f z).bind pt
theorem isEmpty_rep {M : Addr → Prop} {H : Hp} {xs : List V} {ts : List T} (h : RepAll E M H xs ts) : ts.isEmpty = xs.isEmpty := by cases h <;> rfl
theorem td_tr (ha : ED X E a f) (hq : ∀ {t : TE}, PE X a t → PT X a (fun σ H Q => t σ H fun x H' => ∃ k, TruV X.K x H' k ∧ Q k H')) : TD X E a (gTr f) := ⟨pt_imp (hq ha.pe) fun σ H Q ⟨R, zs, z, b, z', er, q, c⟩ => by
  obtain ⟨z1, q1, q2⟩ := Option.bind_eq_some_iff.mp q
  refine ⟨R, zs, z, z1, er, q1, fun x H1 e1 => ?_⟩
  obtain ⟨⟨t, z2⟩, q3, q4⟩ := Option.bind_eq_some_iff.mp q2
  obtain ⟨b', q5, q6⟩ := Option.map_eq_some_iff.mp q4
  cases q6
  obtain ⟨_, h1, e2, r⟩ := e1.pp q3
  cases h1
  refine ⟨b, ?_, c _ e2⟩
  cases t with
  | non => cases r.non; cases q5; rfl
  | bl => cases r.bl; cases q5; rfl
  | int => cases r.int; cases q5; rfl
  | lst ts => obtain ⟨a, xs, rfl, h1, h2⟩ := r.lst; cases q5; exact .inl ⟨xs, .inl h1, by rw [isEmpty_rep h2]⟩
  | tup ts => obtain ⟨a, xs, rfl, h1, h2⟩ := r.tup; cases q5; exact .inr (.inl ⟨xs, EX.t h1, by rw [isEmpty_rep h2]⟩)
  | _ => cases q5⟩
end
/-! ### statements -/
inductive Fl where
  | nx (z : Z) | rt (z : Z) | bk (z : Z) | ct (z : Z)
abbrev SF := Z → Option Fl
/-- what is wanted behind, by how it went -/
def After (E : Ev) (R : Rc) (zs : List (Option V)) (D : Ends) : Fl → Prop
  | .nx z => ∀ σ H, ER E R σ zs H z → D.nx σ H
  | .rt z => ∀ v σ H, ER E R σ (some v :: zs) H z → D.rt v H
  | .bk z => ∀ σ H, ER E R σ zs H z → D.bk σ H
  | .ct z => ∀ σ H, ER E R σ zs H z → D.ct σ H
def tS (E : Ev) (f : SF) : TS := fun D σ H => ∃ R zs z fl, ER E R σ zs H z ∧ f z = some fl ∧ After E R zs D fl
structure SD (X : Cx) (E : Ev) (st : Stmt) (f : SF) : Prop where
  ps : PS X st (tS E f)
structure BD (X : Cx) (E : Ev) (st : List Stmt) (f : SF) : Prop where
  pss : PSs X st (tS E f)
section
variable {X : Cx} {E : Ev} [EX X E] {e a b c : Expr} {es : List Expr} {pos : Pos} {f g : EF} {p : TF} {st : Stmt} {rest : List Stmt} {s t : SF}
theorem ps_imp {t t' : TS} (h : PS X st t) (k : ∀ D σ H, t' D σ H → t D σ H) : PS X st t' := ⟨fun pins s σ H D I q => h.run pins s σ H D I (k D σ H q)⟩
theorem pss_imp {t t' : TS} (h : PSs X rest t) (k : ∀ D σ H, t' D σ H → t D σ H) : PSs X rest t' := ⟨fun pins s σ H D I q => h.run pins s σ H D I (k D σ H q)⟩
def sNil : SF := fun z => some (.nx z)
def sSeq (s t : SF) : SF := fun z => (s z).bind fun fl => match fl with
  | .nx z1 => t z1
  | fl => some fl
theorem bd_nil : BD X E [] sNil := ⟨pss_imp pss_nil fun D σ H ⟨R, zs, z, fl, er, q, c⟩ => by cases q; exact c σ H er⟩
theorem bd_cons (h1 : SD X E st s) (h2 : BD X E rest t) : BD X E (st :: rest) (sSeq s t) := ⟨pss_imp (pss_cons h1.ps h2.pss) fun D σ H ⟨R, zs, z, fl, er, q, c⟩ => by
  obtain ⟨fl1, q1, q2⟩ := Option.bind_eq_some_iff.mp q
  refine ⟨R, zs, z, fl1, er, q1, ?_⟩
  cases fl1 with
  | nx z1 => exact fun σ1 H1 e1 => ⟨R, zs, z1, fl, e1, q2, c⟩
  | rt z1 => cases q2; exact c
  | bk z1 => cases q2; exact c
  | ct z1 => cases q2; exact c⟩
theorem bd_one (h1 : SD X E st s) : BD X E [st] s := ⟨pss_imp (pss_one h1.ps) fun D σ H h => h⟩
theorem sd_pass : SD X E (.Pass pos) sNil := ⟨ps_imp ps_pass fun D σ H ⟨R, zs, z, fl, er, q, c⟩ => by cases q; exact c σ H er⟩
theorem sd_doc {x j pos pos'} : SD X E (.Expr (.Constant (.str x) j pos) pos') sNil := ⟨ps_imp ps_doc fun D σ H ⟨R, zs, z, fl, er, q, c⟩ => by cases q; exact c σ H er⟩
def sBk : SF := fun z => some (.bk z)
def sCt : SF := fun z => some (.ct z)
def sNo : SF := fun _ => none
theorem sd_break : SD X E (.Break pos) sBk := ⟨ps_imp ps_break fun D σ H ⟨R, zs, z, fl, er, q, c⟩ => by cases q; exact c σ H er⟩
theorem sd_continue : SD X E (.Continue pos) sCt := ⟨ps_imp ps_continue fun D σ H ⟨R, zs, z, fl, er, q, c⟩ => by cases q; exact c σ H er⟩
theorem sd_never : SD X E st sNo := ⟨ps_imp ps_never fun D σ H ⟨R, zs, z, fl, er, q, c⟩ => by cases q⟩
def sRet (f : EF) : SF := fun z => (f z).map .rt
def sRetN : SF := fun z => some (.rt ⟨z.l, .val .non :: z.k⟩)
theorem sd_ret (h : ED X E e f) : SD X E (.Return (some e) pos) (sRet f) := ⟨ps_imp (ps_ret h.pe) fun D σ H ⟨R, zs, z, fl, er, q, c⟩ => by
  obtain ⟨z1, q1, q2⟩ := Option.map_eq_some_iff.mp q
  cases q2
  exact ⟨R, zs, z, z1, er, q1, fun v H1 e1 => c v σ H1 e1⟩⟩
theorem sd_retN : SD X E (.Return none pos) sRetN := ⟨ps_imp ps_retN fun D σ H ⟨R, zs, z, fl, er, q, c⟩ => by cases q; exact c _ σ H (ER.pval (l := z.l) (k := z.k) er .non)⟩
def sIf (p : TF) (s t : SF) : SF := fun z => (p z).bind fun x => if x.1 = true then s x.2 else t x.2
theorem sd_if {x y : List Stmt} (hc : TD X E c p) (h1 : BD X E x s) (h2 : BD X E y t) : SD X E (.If c x y pos) (sIf p s t) := ⟨ps_imp (ps_if hc.pt h1.pss h2.pss) fun D σ H ⟨R, zs, z, fl, er, q, c⟩ => by
  obtain ⟨⟨b, z1⟩, q1, q2⟩ := Option.bind_eq_some_iff.mp q
  refine ⟨R, zs, z, b, z1, er, q1, fun H1 e1 => ?_⟩
  cases b with
  | true => exact ⟨R, zs, z1, fl, e1, q2, c⟩
  | false => exact ⟨R, zs, z1, fl, e1, q2, c⟩⟩
def dr : Z → Option Z
  | ⟨l, _ :: k⟩ => some ⟨l, k⟩
  | _ => none
theorem ER.dr {R : Rc} {σ zs : List (Option V)} {H : Hp} {w : Option V} {z z' : Z} (e : ER E R σ (w :: zs) H z) (q : Fn.dr z = some z') : ER E R σ zs H z' := by
  obtain ⟨l, k⟩ := z
  cases k with
  | nil => cases q
  | cons s k => cases q; exact e.pop
def sDo (f : EF) : SF := fun z => ((f z).bind dr).map .nx
theorem sd_do (h : ED X E e f) (hs : swapsWith e none pos.line X.env = pure false := by rfl) : SD X E (.Expr e pos) (sDo f) := ⟨ps_imp (ps_expr h.pe hs) fun D σ H ⟨R, zs, z, fl, er, q, c⟩ => by
  obtain ⟨z2, q0, q2⟩ := Option.map_eq_some_iff.mp q
  obtain ⟨z1, q1, q3⟩ := Option.bind_eq_some_iff.mp q0
  cases q2
  exact ⟨R, zs, z, z1, er, q1, fun v H1 e1 => c σ H1 (e1.dr q3)⟩⟩
/-! storing -/
/-- the top as a thing by itself -/
def nz : Z → Option Z
  | ⟨l, .ali j :: k⟩ => (fz ⟨l, .ali j :: k⟩).map fun x => ⟨x.2.l, .val x.1 :: x.2.k⟩
  | z => some z
def noAli (i : Nat) (k : List Sl) : Bool := k.all fun s => match s with
  | .ali j => j != i
  | _ => true
def put1 (i : Nat) : Z → Option Z
  | ⟨l, s :: k⟩ => match s with
    | .ali _ => none
    | .no => none
    | .io _ => none
    | s => match l[i]? with
      | some (.io _) => none
      | some _ => if noAli i k = true then some ⟨l.set i s, k⟩ else none
      | none => none
  | _ => none
def put (i : Nat) (z : Z) : Option Z := (nz z).bind (put1 i)
theorem ER.nz {R : Rc} {σ zs : List (Option V)} {H : Hp} {v : V} {z z' : Z} (e : ER E R σ (some v :: zs) H z) (q : Fn.nz z = some z') : ER E R σ (some v :: zs) H z' := by
  obtain ⟨l, k⟩ := z
  unfold Fn.nz at q
  split at q
  · rename_i l j k h
    obtain ⟨⟨t, z1⟩, q1, q2⟩ := Option.map_eq_some_iff.mp q
    cases q2
    cases h
    obtain ⟨_, h1, e1, r⟩ := e.fz q1
    cases h1
    exact ER.pval (l := z1.l) (k := z1.k) e1 r
  · cases q; exact e
theorem set_same {α : Type} {xs : List α} {i j : Nat} {x : α} (h : i ≠ j) : (xs.set i x)[j]? = xs[j]? := List.getElem?_set_ne h
theorem ER.put1 {R : Rc} {σ zs : List (Option V)} {H : Hp} {v : V} {i : Nat} {z z' : Z} (e : ER E R σ (some v :: zs) H z) (q : Fn.put1 i z = some z') : ER E R (σ.set i (some v)) zs H z' := by
  obtain ⟨l, k⟩ := z
  cases k with
  | nil => cases q
  | cons s k =>
    have key : (s.isAli = false ∧ s.isIo = false) ∧ ∃ s0, l[i]? = some s0 ∧ s0.isIo = false ∧ noAli i k = true ∧ z' = ⟨l.set i s, k⟩ := by
      cases s with
      | ali j => cases q
      | no => cases q
      | io t => cases q
      | val t =>
        refine ⟨⟨rfl, rfl⟩, ?_⟩
        dsimp only [Fn.put1] at q
        split at q
        · cases q
        · rename_i s0 hs0 _
          obtain ⟨h1, h2⟩ := ite_some' q
          refine ⟨s0, ‹_›, ?_, h1, h2.symm⟩
          cases s0 with
          | io t => exact absurd rfl (hs0 t)
          | _ => rfl
        · cases q
      | own t =>
        refine ⟨⟨rfl, rfl⟩, ?_⟩
        dsimp only [Fn.put1] at q
        split at q
        · cases q
        · rename_i s0 hs0 _
          obtain ⟨h1, h2⟩ := ite_some' q
          refine ⟨s0, ‹_›, ?_, h1, h2.symm⟩
          cases s0 with
          | io t => exact absurd rfl (hs0 t)
          | _ => rfl
        · cases q
    obtain ⟨⟨na, ni⟩, s0, h0, hio, hal, rfl⟩ := key
    obtain ⟨w, hw, _⟩ := loc_at e.ll h0
    have hi := (List.getElem?_eq_some_iff.mp h0).1
    have hi' := (List.getElem?_eq_some_iff.mp hw).1
    refine ⟨by rw [List.length_set, List.length_set]; exact e.ll, Nat.succ.inj e.lk, ?_, fun w' j m => ?_, fun s' hs' => ?_, fun s' hs' => e.nk s' (List.mem_cons_of_mem _ hs'), fun j t hj => ?_⟩
    · have g1 := e.ok.perm ((pz_push (some v) s).symm.trans ((pz_loc hw h0).cons _))
      exact ((g1.perm (.swap ..)).tail).perm (pz_set hw h0).symm
    · obtain ⟨h1, s1, h2, h3⟩ := e.al w' j (List.mem_cons_of_mem _ m)
      have hm : (Sl.ali j) ∈ k := (List.of_mem_zip m).2
      have : j ≠ i := by
        have := List.all_eq_true.mp hal _ hm
        simpa using this
      exact ⟨by rw [set_same this.symm]; exact h1, s1, by rw [set_same this.symm]; exact h2, h3⟩
    · rcases List.mem_or_eq_of_mem_set hs' with hs' | rfl
      · exact e.nl s' hs'
      · exact na
    · by_cases hj2 : i = j
      · subst hj2
        rw [List.getElem?_set_self hi] at hj
        cases hj
        cases ni
      · rw [set_same hj2] at hj ⊢
        exact e.io j t hj
theorem ER.put {R : Rc} {σ zs : List (Option V)} {H : Hp} {v : V} {i : Nat} {z z' : Z} (e : ER E R σ (some v :: zs) H z) (q : Fn.put i z = some z') : ER E R (σ.set i (some v)) zs H z' := by
  obtain ⟨z1, q1, q2⟩ := Option.bind_eq_some_iff.mp q
  exact (e.nz q1).put1 q2
/-! targets: which locals are stored -/
abbrev GF := Z → Option Z
/-- outside of these slots nothing is changed -/
def Wp (is : List Nat) (σ σ' : L2.St) : Prop := ∀ vs : List Nat, (∀ i ∈ is, i ∈ vs) → wipe σ' vs = wipe σ vs
def tG (E : Ev) (is : List Nat) (g : GF) : TG := fun v σ H Q => ∃ R zs z z', ER E R σ (some v :: zs) H z ∧ g z = some z' ∧ ∀ σ' H', Wp is σ σ' → ER E R σ' zs H' z' → Q σ' H'
def tGs (E : Ev) (is : List Nat) (g : GF) (n : Nat) : TGs := fun vs σ H Q => ∃ R zs z z', vs.length = n ∧ ER E R σ (vs.map some ++ zs) H z ∧ g z = some z' ∧ ∀ σ' H', Wp is σ σ' → ER E R σ' zs H' z' → Q σ' H'
structure GD (X : Cx) (E : Ev) (tg : Expr) (is : List Nat) (g : GF) : Prop where
  pg : PG X tg (tG E is g)
structure GsD (X : Cx) (E : Ev) (ts : List Expr) (is : List Nat) (g : GF) : Prop where
  pgs : PGs X ts (tGs E is g ts.length)
theorem pg_imp {tg : Expr} {t t' : TG} (h : PG X tg t) (k : ∀ v σ H Q, t' v σ H Q → t v σ H Q) : PG X tg t' := ⟨fun pins s σ H v u Q I r q => h.run pins s σ H v u Q I r (k v σ H Q q)⟩
theorem pgs_imp {tg : List Expr} {t t' : TGs} (h : PGs X tg t) (k : ∀ v σ H Q, t' v σ H Q → t v σ H Q) : PGs X tg t' := ⟨fun pins s σ H v u Q I r q => h.run pins s σ H v u Q I r (k v σ H Q q)⟩
theorem wipe_set {σ : L2.St} {i : Nat} {w : Option V} : ∀ {vs : List Nat}, i ∈ vs → wipe (σ.set i w) vs = wipe σ vs
  | v :: vs, h => by
    unfold wipe
    by_cases hv : i ∈ vs
    · rw [wipe_set hv]
    · rcases List.mem_cons.mp h with rfl | h
      · have : ∀ (vs : List Nat), i ∉ vs → wipe (σ.set i w) vs = (wipe σ vs).set i w := fun vs => by
          induction vs with
          | nil => exact fun _ => rfl
          | cons u us ih =>
            intro hn
            have h1 : i ≠ u := fun e => hn (by rw [e]; exact List.mem_cons_self)
            unfold wipe
            rw [ih fun z => hn (List.mem_cons_of_mem _ z), List.set_comm _ _ h1]
        rw [this vs hv, List.set_set]
      · exact absurd h hv
theorem wp_set {σ : L2.St} {i : Nat} {w : Option V} : Wp [i] σ (σ.set i w) := fun vs h => wipe_set (h i List.mem_cons_self)
theorem wp_tr {is js : List Nat} {σ σ1 σ2 : L2.St} (h1 : Wp is σ σ1) (h2 : Wp js σ1 σ2) : Wp (is ++ js) σ σ2 := fun vs h => (h2 vs fun i hi => h i (List.mem_append_right _ hi)).trans (h1 vs fun i hi => h i (List.mem_append_left _ hi))
theorem wp_rf {is : List Nat} {σ : L2.St} : Wp is σ σ := fun _ _ => rfl
theorem gd_name {i : Nat} {tg : Expr} (h : PG X tg (gName i)) : GD X E tg [i] (put i) := ⟨pg_imp h fun v σ H Q ⟨R, zs, z, z', er, q, c⟩ => c _ H wp_set (er.put q)⟩
theorem gsd_nil : GsD X E [] [] some := ⟨pgs_imp pgs_nil fun vs σ H Q ⟨R, zs, z, z', hl, er, q, c⟩ => by
  cases vs with
  | nil => cases q; exact ⟨rfl, c σ H wp_rf er⟩
  | cons v vs => cases hl⟩
theorem gsd_cons {tg : Expr} {ts : List Expr} {is js : List Nat} {g1 g2 : GF} (h1 : GD X E tg is g1) (h2 : GsD X E ts js g2) (hs : (assignEach (tg :: ts) X.env).map (·.2) = assign tg X.env :: (assignEach ts X.env).map (·.2) := by rfl) : GsD X E (tg :: ts) (is ++ js) (f2 g1 g2) :=
  ⟨pgs_imp (pgs_cons h1.pg h2.pgs hs) fun vs σ H Q ⟨R, zs, z, z', hl, er, q, c⟩ => by
    obtain ⟨z1, q1, q2⟩ := Option.bind_eq_some_iff.mp q
    cases vs with
    | nil => cases hl
    | cons v vs => exact ⟨v, vs, rfl, R, _, z, z1, er, q1, fun σ1 H1 w1 e1 => ⟨R, zs, z1, z', Nat.succ.inj hl, e1, q2, fun σ2 H2 w2 e2 => c σ2 H2 (wp_tr w1 w2) e2⟩⟩⟩
theorem ER.pushAll {R : Rc} {σ zs : List (Option V)} {H : Hp} {l k : List Sl} : ∀ {xs : List V} {ts : List T}, ER E R σ zs H ⟨l, k⟩ → RepAll E (Mz R σ zs ⟨l, k⟩) H xs ts → ER E R σ (xs.map some ++ zs) H ⟨l, ts.map .val ++ k⟩
  | [], _, e, h => by cases h; exact e
  | x :: xs, _, e, h => by
    cases h with
    | cons h1 h2 =>
      have e2 := ER.pushAll e h2
      refine e2.pval (h1.an fun a m => ?_)
      have : ∀ (xs : List V) (ts : List T), xs.length = ts.length → ∀ a, Mz R σ (xs.map some ++ zs) ⟨l, ts.map Sl.val ++ k⟩ a → Mz R σ zs ⟨l, k⟩ a := by
        intro xs
        induction xs with
        | nil => intro ts hl; cases ts with
          | nil => exact fun _ h => h
          | cons => cases hl
        | cons x xs ih =>
          intro ts hl
          cases ts with
          | nil => cases hl
          | cons t ts =>
            intro a m
            refine ih ts (Nat.succ.inj hl) a ?_
            have := (mx_perm (pz_push (σ := σ) (zs := xs.map some ++ zs) (l := l) (k := ts.map Sl.val ++ k) (some x) (Sl.val t)).symm a).mp m
            exact (mx_un (x := (some x, Sl.val t)) rfl a).mp this
      exact this _ _ h2.len a m
/-- a tuple or a list of n, unpacked -/
def un (n : Nat) (z : Z) : Option Z := (pp z).bind fun x => match x.1 with
  | .tup ts => if (ts.length == n) = true then some ⟨x.2.l, ts.map .val ++ x.2.k⟩ else none
  | _ => none
def unL (n : Nat) (z : Z) : Option Z := (pp z).bind fun x => match x.1 with
  | .lst ts => if (ts.length == n) = true then some ⟨x.2.l, ts.map .val ++ x.2.k⟩ else none
  | _ => none
theorem gd_tup [EX X E] {ts : List Expr} {k : Nat} {is : List Nat} {g : GF} {n : Nat} (hc : X.calm = true) (h : GsD X E ts is g) (hl : ts.length = n := by rfl) (hn : (assignEach ts X.env).length = n := by rfl) (hst : (assignEach ts X.env).findIdx? (·.1) = none := by rfl) : GD X E (.Tuple ts k pos) is (f2 (un n) g) :=
  ⟨pg_imp (pg_tup hc h.pgs hn hst) fun v σ H Q ⟨R, zs, z, z', er, q, c⟩ => by
    obtain ⟨z1, q1, q2⟩ := Option.bind_eq_some_iff.mp q
    obtain ⟨⟨t, z2⟩, q3, q4⟩ := Option.bind_eq_some_iff.mp q1
    obtain ⟨_, h1, e1, r⟩ := er.pp q3
    cases h1
    cases t with
    | tup us =>
      obtain ⟨q5, q6⟩ := ite_some' q4
      subst q6
      obtain ⟨a, xs, rfl, r1, r2⟩ := r.tup
      have hx : xs.length = n := r2.len.trans (eq_of_beq q5)
      exact ⟨a, xs, rfl, EX.t r1, hx, R, zs, _, z', hx.trans hl.symm, ER.pushAll (l := z2.l) (k := z2.k) e1 r2, q2, c⟩
    | _ => cases q4⟩
theorem gd_lst {ts : List Expr} {k : Nat} {is : List Nat} {g : GF} {n : Nat} (hc : X.calm = true) (h : GsD X E ts is g) (hl : ts.length = n := by rfl) (hn : (assignEach ts X.env).length = n := by rfl) (hst : (assignEach ts X.env).findIdx? (·.1) = none := by rfl) : GD X E (.Tuple ts k pos) is (f2 (unL n) g) :=
  ⟨pg_imp (pg_lst hc h.pgs hn hst) fun v σ H Q ⟨R, zs, z, z', er, q, c⟩ => by
    obtain ⟨z1, q1, q2⟩ := Option.bind_eq_some_iff.mp q
    obtain ⟨⟨t, z2⟩, q3, q4⟩ := Option.bind_eq_some_iff.mp q1
    obtain ⟨_, h1, e1, r⟩ := er.pp q3
    cases h1
    cases t with
    | lst us =>
      obtain ⟨q5, q6⟩ := ite_some' q4
      subst q6
      obtain ⟨a, xs, rfl, r1, r2⟩ := r.lst
      have hx : xs.length = n := r2.len.trans (eq_of_beq q5)
      exact ⟨a, xs, rfl, .inl r1, hx, R, zs, _, z', hx.trans hl.symm, ER.pushAll (l := z2.l) (k := z2.k) e1 r2, q2, c⟩
    | _ => cases q4⟩
def sPut (f : EF) (g : GF) : SF := fun z => ((f z).bind g).map .nx
/-- target = value -/
theorem sd_asg {is : List Nat} {g : GF} {te : TE → TG → TS} (hq : ∀ {t : TE} {u : TG}, PE X e t → PG X a u → PS X st (tAsg t u)) (he : ED X E e f) (hg : GD X E a is g) : SD X E st (sPut f g) := ⟨ps_imp (hq he.pe hg.pg) fun D σ H ⟨R, zs, z, fl, er, q, c⟩ => by
  obtain ⟨z2, q0, q2⟩ := Option.map_eq_some_iff.mp q
  obtain ⟨z1, q1, q3⟩ := Option.bind_eq_some_iff.mp q0
  cases q2
  exact ⟨R, zs, z, z1, er, q1, fun v H1 e1 => ⟨R, zs, z1, z2, e1, q3, fun σ2 H2 _ e2 => c σ2 H2 e2⟩⟩⟩
theorem sd_set {i : Nat} (hq : ∀ {t : TE}, PE X e t → PS X st (tAsg t (gName i))) (he : ED X E e f) : SD X E st (sPut f (put i)) := ⟨ps_imp (hq he.pe) fun D σ H ⟨R, zs, z, fl, er, q, c⟩ => by
  obtain ⟨z2, q0, q2⟩ := Option.map_eq_some_iff.mp q
  obtain ⟨z1, q1, q3⟩ := Option.bind_eq_some_iff.mp q0
  cases q2
  exact ⟨R, zs, z, z1, er, q1, fun v H1 e1 => c _ H1 (e1.put q3)⟩⟩
/-- a, b = x, y: the right one is on the top; it is stored from the left -/
def swp : Z → Option Z
  | ⟨l, s :: t :: k⟩ => some ⟨l, t :: s :: k⟩
  | _ => none
theorem ER.swp {R : Rc} {σ zs : List (Option V)} {H : Hp} {v w : Option V} {z z' : Z} (e : ER E R σ (v :: w :: zs) H z) (q : Fn.swp z = some z') : ER E R σ (w :: v :: zs) H z' := by
  obtain ⟨l, k⟩ := z
  cases k with
  | nil => cases q
  | cons s k =>
    cases k with
    | nil => cases q
    | cons t k =>
      cases q
      refine ⟨e.ll, e.lk, e.ok.perm ?_, fun w j m => e.al w j ?_, e.nl, fun s' hs => e.nk s' ?_, e.io⟩
      · exact (List.Perm.swap ..).append_left _
      · exact (List.Perm.swap ..).mem_iff.mp m
      · exact (List.Perm.swap ..).mem_iff.mp hs
end
end Fn
set_option Elab.async false
set_option linter.all false
set_option maxRecDepth 100000
set_option maxHeartbeats 4000000
namespace Fn
open PySem PySem.Spec PyProof.Rows L2 Rw
section
variable {X : Cx} {E : Ev} {e a b c : Expr} {es : List Expr} {pos : Pos} {f g : EF} {p : TF} {st : Stmt} {rest : List Stmt} {s t : SF}
/-! a, b = x, y -/
def sPar (i j : Nat) (f : EF) : SF := fun z => ((((f z).bind swp).bind (put i)).bind (put j)).map .nx
theorem sd_par {i j : Nat} (hq : ∀ {t : TA}, PA X es t → PS X st (tPar i j t)) (hn : es.length = 2) (ha : AD X E es f) : SD X E st (sPar i j f) := ⟨ps_imp (hq ha.pa) fun D σ H ⟨R, zs, z, fl, er, q, c⟩ => by
  obtain ⟨z4, q0, q2⟩ := Option.map_eq_some_iff.mp q
  obtain ⟨z3, q1, q3⟩ := Option.bind_eq_some_iff.mp q0
  obtain ⟨z2, q4, q5⟩ := Option.bind_eq_some_iff.mp q1
  obtain ⟨z1, q6, q7⟩ := Option.bind_eq_some_iff.mp q4
  cases q2
  refine ⟨R, zs, z, z1, er, q6, fun vs H1 hl e1 => ?_⟩
  rw [hn] at hl
  match vs, hl with
  | [v, w], _ => exact ⟨v, w, rfl, c _ H1 (((ER.swp e1 q7).put q5).put q3)⟩⟩
def sPar3 (i j k : Nat) (f : EF) : SF := fun z => ((f z).bind fun z1 => match z1 with
  | ⟨l, s :: t :: u :: r⟩ => ((put i ⟨l, u :: t :: s :: r⟩).bind (put j)).bind (put k)
  | _ => none).map .nx
theorem ER.rev3 {R : Rc} {σ zs : List (Option V)} {H : Hp} {v w x : Option V} {l k : List Sl} {s t u : Sl} (e : ER E R σ (v :: w :: x :: zs) H ⟨l, s :: t :: u :: k⟩) : ER E R σ (x :: w :: v :: zs) H ⟨l, u :: t :: s :: k⟩ := by
  have p : ∀ {α : Type} {a b c : α} {r : List α}, (a :: b :: c :: r).Perm (c :: b :: a :: r) := fun {α a b c r} => (List.Perm.swap b a (c :: r)).trans ((List.Perm.cons b (List.Perm.swap c a r)).trans (List.Perm.swap c b (a :: r)))
  refine ⟨e.ll, e.lk, e.ok.perm (List.Perm.append_left _ ?_), fun w j m => e.al w j ?_, e.nl, fun s' hs => e.nk s' ?_, e.io⟩
  · exact p
  · simp only [List.zip_cons_cons, List.mem_cons] at m ⊢
    rcases m with h | h | h | h
    · exact .inr (.inr (.inl h))
    · exact .inr (.inl h)
    · exact .inl h
    · exact .inr (.inr (.inr h))
  · exact p.mem_iff.mp hs
theorem sd_par3 {i j k : Nat} (hq : ∀ {t : TA}, PA X es t → PS X st (fun D σ H => t σ H fun vs H1 => ∃ v w x, vs = [v, w, x] ∧ D.nx (((σ.set i (some v)).set j (some w)).set k (some x)) H1)) (hn : es.length = 3) (ha : AD X E es f) : SD X E st (sPar3 i j k f) := ⟨ps_imp (hq ha.pa) fun D σ H ⟨R, zs, z, fl, er, q, c⟩ => by
  obtain ⟨z4, q0, q2⟩ := Option.map_eq_some_iff.mp q
  obtain ⟨z1, q1, q3⟩ := Option.bind_eq_some_iff.mp q0
  cases q2
  refine ⟨R, zs, z, z1, er, q1, fun vs H1 hl e1 => ?_⟩
  rw [hn] at hl
  match vs, hl with
  | [v, w, x], _ =>
    refine ⟨v, w, x, rfl, ?_⟩
    split at q3
    · obtain ⟨z3, q4, q5⟩ := Option.bind_eq_some_iff.mp q3
      obtain ⟨z2, q6, q7⟩ := Option.bind_eq_some_iff.mp q4
      exact c _ H1 ((((ER.rev3 e1).put q6).put q7).put q5)
    · cases q3⟩
/-! while -/
def sWh (p : TF) (s : SF) : Nat → SF
  | 0 => fun _ => none
  | n + 1 => fun z => (p z).bind fun x => if x.1 = true then (s x.2).bind fun fl => match fl with
      | .nx z1 => sWh p s n z1
      | .ct z1 => sWh p s n z1
      | .bk z1 => some (.nx z1)
      | .rt z1 => some (.rt z1)
    else some (.nx x.2)
theorem sd_while {body : List Stmt} (n : Nat) (hq : ∀ {t : TT} {u : TS}, PT X c t → PSs X body u → PS X st (tWhile t u)) (hc : TD X E c p) (hb : BD X E body s) : SD X E st (sWh p s n) := ⟨ps_imp (hq hc.pt hb.pss) fun D σ H ⟨R, zs, z, fl, er, q, c⟩ => by
  refine ⟨fun m σ H => ∃ z fl, ER E R σ zs H z ∧ sWh p s m z = some fl ∧ After E R zs D fl, ⟨n, z, fl, er, q, c⟩, ?_⟩
  rintro m σ H ⟨z, fl, er, q, c⟩
  cases m with
  | zero => cases q
  | succ m =>
    obtain ⟨⟨b, z1⟩, q1, q2⟩ := Option.bind_eq_some_iff.mp q
    refine ⟨R, zs, z, b, z1, er, q1, fun H1 e1 => ?_⟩
    cases b with
    | false => cases q2; exact c σ H1 e1
    | true =>
      obtain ⟨fl1, q3, q4⟩ := Option.bind_eq_some_iff.mp q2
      refine ⟨fun σ H => ∃ z fl, ER E R σ zs H z ∧ sWh p s m z = some fl ∧ After E R zs D fl, fun σ' H' h => ⟨m, Nat.lt_succ_self m, h⟩, R, zs, z1, fl1, e1, q3, ?_⟩
      cases fl1 with
      | nx z2 => exact fun σ2 H2 e2 => ⟨z2, fl, e2, q4, c⟩
      | ct z2 => exact fun σ2 H2 e2 => ⟨z2, fl, e2, q4, c⟩
      | bk z2 => cases q4; exact c
      | rt z2 => cases q4; exact c⟩
/-! what is walked: m slots on the stack, from which the items are seen -/
abbrev Sc := Z → Option (List T)
structure WalkD (E : Ev) (ws : List (Option V)) (n : Nat) (src : Sc) (J : It) : Prop where
  go : ∀ {R : Rc} {zs : List (Option V)} i σ H z ts, i < n → ER E R σ (ws ++ zs) H z → src z = some ts → ts.length = n → J.go i H
  stop : ∀ {R : Rc} {zs : List (Option V)} σ H z ts, ER E R σ (ws ++ zs) H z → src z = some ts → ts.length = n → J.stop n H
  yld : ∀ {R : Rc} {zs : List (Option V)} i σ H z ts x H' t, i < n → ER E R σ (ws ++ zs) H z → src z = some ts → ts.length = n → ts[i]? = some t → J.yld i H x H' → ER E R σ (some x :: (ws ++ zs)) H' ⟨z.l, .val t :: z.k⟩
abbrev IF := Z → Option (Z × Sc)
def tI (E : Ev) (f : IF) (m : Nat) : TI := fun σ H Rk => ∃ R zs z z1 src ts, ER E R σ zs H z ∧ f z = some (z1, src) ∧ src z1 = some ts ∧ ∀ J ws H1, ws.length = m → ER E R σ (ws ++ zs) H1 z1 → WalkD E ws ts.length src J → Rk J H1
structure ID (X : Cx) (E : Ev) (tg iter : Expr) (f : IF) (m : Nat) : Prop where
  pi : PI X tg iter (tI E f m)
def drN : Nat → Z → Z
  | 0, z => z
  | m + 1, z => drN m ⟨z.l, z.k.tail⟩
theorem ER.drN {R : Rc} {σ zs : List (Option V)} {H : Hp} : ∀ {ws : List (Option V)} {z : Z}, ER E R σ (ws ++ zs) H z → ER E R σ zs H (Fn.drN ws.length z)
  | [], z, e => e
  | w :: ws, ⟨l, k⟩, e => by
    cases k with
    | nil => have := e.lk; simp at this
    | cons s k => exact ER.drN (ws := ws) e.pop
/-- the top stays, the m below it go -/
def drU (m : Nat) (z : Z) : Z := match z.k with
  | s :: k => let z1 := drN m ⟨z.l, k⟩; ⟨z1.l, s :: z1.k⟩
  | [] => z
theorem ER.drop2 {R : Rc} {σ zs : List (Option V)} {H : Hp} {v w : Option V} {l k : List Sl} {s u : Sl} (e : ER E R σ (v :: w :: zs) H ⟨l, s :: u :: k⟩) : ER E R σ (v :: zs) H ⟨l, s :: k⟩ := ER.pop (ER.swp e rfl)
theorem ER.drU {R : Rc} {σ zs : List (Option V)} {H : Hp} {v : Option V} : ∀ {ws : List (Option V)} {z : Z}, ER E R σ (v :: (ws ++ zs)) H z → ER E R σ (v :: zs) H (Fn.drU ws.length z)
  | [], ⟨l, k⟩, e => by
    cases k with
    | nil => exact e
    | cons s k => exact e
  | w :: ws, ⟨l, k⟩, e => by
    cases k with
    | nil => have := e.lk; simp at this
    | cons s k =>
      cases k with
      | nil => have := e.lk; simp at this
      | cons u k => exact ER.drU (ws := ws) (ER.drop2 e)
/-- the turns that are left -/
def frL (src : Sc) (m n : Nat) (g : GF) (s : SF) : Nat → SF
  | 0 => fun z => (src z).bind fun ts => if (ts.length == n) = true then some (.nx (drN m z)) else none
  | r + 1 => fun z => (src z).bind fun ts => if (ts.length == n) = true then (ts[n - (r + 1)]?).bind fun x => (g ⟨z.l, .val x :: z.k⟩).bind fun z1 => (s z1).bind fun fl => match fl with
      | .nx z2 => frL src m n g s r z2
      | .ct z2 => frL src m n g s r z2
      | .bk z2 => some (.nx (drN m z2))
      | .rt z2 => some (.rt (drU m z2))
    else none
def sFor (f : IF) (m : Nat) (g : GF) (s : SF) : SF := fun z => (f z).bind fun x => (x.2 x.1).bind fun ts => frL x.2 m ts.length g s ts.length x.1
theorem ite_n {α : Type} {c : Bool} {x : Option α} {y : α} (h : (if c = true then x else none) = some y) : c = true ∧ x = some y := by
  cases c with
  | true => exact ⟨rfl, h⟩
  | false => cases h
theorem sd_for {body : List Stmt} {m : Nat} {fi : IF} {is : List Nat} {gg : GF} {tg : Expr} (hq : ∀ {w : TI} {u : TG} {v : TS}, PI X tg e w → PG X tg u → PSs X body v → PS X st (tFor w u v)) (hi : ID X E tg e fi m) (hg : GD X E tg is gg) (hb : BD X E body s) : SD X E st (sFor fi m gg s) := ⟨ps_imp (hq hi.pi hg.pg hb.pss) fun D σ H ⟨R, zs, z, fl, er, q, c⟩ => by
  obtain ⟨⟨z1, src⟩, q1, q2⟩ := Option.bind_eq_some_iff.mp q
  obtain ⟨ts, q3, q4⟩ := Option.bind_eq_some_iff.mp q2
  refine ⟨R, zs, z, z1, src, ts, er, q1, q3, fun J ws H1 hw e1 wd => ?_⟩
  dsimp only at q4
  generalize ts.length = n at wd q4
  refine ⟨fun i r σ H => i + r = n ∧ ∃ z fl, ER E R σ (ws ++ zs) H z ∧ frL src m n gg s r z = some fl ∧ After E R zs D fl, ⟨n, by omega, z1, fl, e1, q4, c⟩, ?_⟩
  rintro i r σ H ⟨hir, z, fl, er, q, c⟩
  cases r with
  | zero =>
    obtain ⟨us, q5, q6⟩ := Option.bind_eq_some_iff.mp q
    obtain ⟨q7, q8⟩ := ite_some' q6
    subst q8
    have hi : i = n := by omega
    subst hi
    exact .inl ⟨wd.stop σ H z us er q5 (eq_of_beq q7), c σ H (by rw [← hw]; exact er.drN)⟩
  | succ r =>
    obtain ⟨us, q5, q6⟩ := Option.bind_eq_some_iff.mp q
    obtain ⟨q7, q8⟩ := ite_n q6
    obtain ⟨t, q9, q10⟩ := Option.bind_eq_some_iff.mp q8
    obtain ⟨z2, q11, q12⟩ := Option.bind_eq_some_iff.mp q10
    obtain ⟨fl2, q13, q14⟩ := Option.bind_eq_some_iff.mp q12
    have hi : n - (r + 1) = i := by omega
    rw [hi] at q9
    refine .inr ⟨wd.go i σ H z us (by omega) er q5 (eq_of_beq q7), fun σ H => i + 1 + r = n ∧ ∃ z fl, ER E R σ (ws ++ zs) H z ∧ frL src m n gg s r z = some fl ∧ After E R zs D fl, fun σ' H' h => ⟨r, Nat.lt_succ_self r, h⟩, fun x H' y => ?_⟩
    refine ⟨R, ws ++ zs, _, z2, wd.yld i σ H z us x H' t (by omega) er q5 (eq_of_beq q7) q9 y, q11, fun σ2 H2 _ e2 => ⟨R, ws ++ zs, z2, fl2, e2, q13, ?_⟩⟩
    cases fl2 with
    | nx z3 => exact fun σ3 H3 e3 => ⟨by omega, z3, fl, e3, q14, c⟩
    | ct z3 => exact fun σ3 H3 e3 => ⟨by omega, z3, fl, e3, q14, c⟩
    | bk z3 => cases q14; exact fun σ3 H3 e3 => c σ3 H3 (by rw [← hw]; exact e3.drN)
    | rt z3 => cases q14; exact fun v σ3 H3 e3 => c v σ3 H3 (by rw [← hw]; exact e3.drU)⟩
/-! sources -/
theorem pi_imp {tg : Expr} {w w' : TI} (h : PI X tg e w) (k : ∀ σ H Q, w' σ H Q → w σ H Q) : PI X tg e w' := ⟨fun pins s σ H Q I q => h.run pins s σ H Q I (k σ H Q q)⟩
theorem ER.top {R : Rc} {σ zs : List (Option V)} {H : Hp} {v : Option V} {z z1 : Z} {t : T} (e : ER E R σ (v :: zs) H z) (q : Fn.pp z = some (t, z1)) : ∃ w, v = some w ∧ Seen E (Mz R σ (v :: zs) z) H w t := by
  obtain ⟨l, k⟩ := z
  cases k with
  | nil => cases q
  | cons s k =>
    have top : (v, s) ∈ Pz σ (v :: zs) ⟨l, s :: k⟩ := List.mem_append_right _ List.mem_cons_self
    cases s with
    | val u => cases q; obtain ⟨w', q1, q2⟩ := e.ok.val _ top _ rfl; exact ⟨w', q1, .inl q2⟩
    | own u => cases q; obtain ⟨a, q1, _, q2⟩ := e.ok.own _ top _ rfl; exact ⟨_, q1, .inr ⟨a, rfl, q2⟩⟩
    | io u => exact absurd (e.nk _ List.mem_cons_self) (fun z => nomatch z)
    | no => cases q
    | ali j =>
      obtain ⟨w, h1, e1, r⟩ := e.pp q
      refine ⟨w, h1, r.an fun b m => ?_⟩
      have hz : z1 = ⟨l, k⟩ := by
        dsimp only [Fn.pp] at q
        split at q
        · split at q
          · cases q; rfl
          · cases q
        · cases q
      subst hz
      exact (mx_un (x := (v, Sl.ali j)) rfl b).mp ((mx_perm (pz_push v _).symm b).mp m)
/-- what stands on the stack, as items -/
def scL : Sc := fun z => match pp z with
  | some (.lst ts, _) => some ts
  | _ => none
def scT : Sc := fun z => match pp z with
  | some (.tup ts, _) => some ts
  | _ => none
def rangeT (lo hi : Int) : List T := (List.range (hi - lo).toNat).map fun (i : Nat) => T.int (lo + i)
def signsT (x : Str) : List T := x.cps.toList.map fun c => T.str ⟨#[c]⟩
def scK (ts : List T) : Sc := fun _ => some ts
theorem ER.scL {R : Rc} {σ zs : List (Option V)} {H : Hp} {v : Option V} {z : Z} {ts : List T} (e : ER E R σ (v :: zs) H z) (q : Fn.scL z = some ts) : ∃ a xs, v = some (.ref a) ∧ Rd H a (.lst xs) ∧ RepAll E (Mz R σ (v :: zs) z) H xs ts := by
  unfold Fn.scL at q
  split at q
  · rename_i us z1 h
    cases q
    obtain ⟨w, h1, r⟩ := e.top h
    obtain ⟨a, xs, rfl, r1, r2⟩ := r.lst
    exact ⟨a, xs, h1, r1, r2⟩
  · cases q
theorem ER.scT [EX X E] {R : Rc} {σ zs : List (Option V)} {H : Hp} {v : Option V} {z : Z} {ts : List T} (e : ER E R σ (v :: zs) H z) (q : Fn.scT z = some ts) : ∃ a xs, v = some (.ref a) ∧ SqT X.K H a xs ∧ RepAll E (Mz R σ (v :: zs) z) H xs ts := by
  unfold Fn.scT at q
  split at q
  · rename_i us z1 h
    cases q
    obtain ⟨w, h1, r⟩ := e.top h
    obtain ⟨a, xs, rfl, r1, r2⟩ := r.tup
    exact ⟨a, xs, h1, EX.t r1, r2⟩
  · cases q
theorem ER.item {R : Rc} {σ zs : List (Option V)} {H : Hp} {z : Z} {x : V} {t : T} (e : ER E R σ zs H z) (h : Rep E (Mz R σ zs z) H x t) : ER E R σ (some x :: zs) H ⟨z.l, .val t :: z.k⟩ := ER.pval (l := z.l) (k := z.k) e h
theorem ws1 {α : Type} {ws : List α} (h : ws.length = 1) : ∃ w, ws = [w] := by
  match ws, h with
  | [w], _ => exact ⟨w, rfl⟩
theorem ws2 {α : Type} {ws : List α} (h : ws.length = 2) : ∃ v w, ws = [v, w] := by
  match ws, h with
  | [v, w], _ => exact ⟨v, w, rfl⟩
/-- a thing that is walked: a list, a tuple, a range, a text -/
def fSq (f : EF) : IF := fun z => (f z).bind fun z1 => match pp z1 with
  | some (.lst _, _) => some (z1, scL)
  | some (.tup _, _) => some (z1, scT)
  | some (.rng lo hi, _) => if (decide (-(2 ^ 62) ≤ lo) && decide (lo < 2 ^ 62) && decide (-(2 ^ 62) ≤ hi) && decide (hi < 2 ^ 62)) = true then some (z1, scK (rangeT lo hi)) else none
  | some (.str x, _) => some (z1, scK (signsT x))
  | _ => none
theorem id_seq [EX X E] {tg : Expr} (he : ED X E e f) : ID X E tg e (fSq f) 1 := ⟨pi_imp (pi_either (pi_either (pi_list he.pe) (pi_tup he.pe)) (pi_either (pi_rngV he.pe) (pi_str he.pe))) fun σ H Rk ⟨R, zs, z, z1, src, ts, er, q, qs, c⟩ => by
  obtain ⟨z0, q1, q2⟩ := Option.bind_eq_some_iff.mp q
  split at q2
  · rename_i us z2 hp
    cases q2
    refine .inl (.inl ⟨R, zs, z, z1, er, q1, fun x H1 e1 => ?_⟩)
    obtain ⟨a, xs, hv, r1, r2⟩ := e1.scL qs
    cases hv
    refine ⟨a, rfl, ⟨xs, .inl r1⟩, c _ [some (.ref a)] H1 rfl e1 ⟨fun {R zs} i σ H z ts hi e q hl => ?_, fun {R zs} σ H z ts e q hl => ?_, fun {R zs} i σ H z ts x H' t hi e q hl ht y => ?_⟩⟩
    · obtain ⟨a', xs, hv, r1, r2⟩ := ER.scL e q
      cases hv
      exact ⟨xs, xs[i]'(by rw [r2.len, hl]; exact hi), .inl r1, List.getElem?_eq_getElem _⟩
    · obtain ⟨a', xs, hv, r1, r2⟩ := ER.scL e q
      cases hv
      exact ⟨xs, .inl r1, by rw [r2.len, hl]; exact Nat.le_refl _⟩
    · obtain ⟨a', xs, hv, r1, r2⟩ := ER.scL e q
      cases hv
      obtain ⟨rfl, hx⟩ := y
      obtain ⟨t', h1, h2⟩ := r2.at (hx xs (.inl r1))
      rw [ht] at h1
      cases h1
      exact e.item h2
  · rename_i us z2 hp
    cases q2
    refine .inl (.inr ⟨R, zs, z, z1, er, q1, fun x H1 e1 => ?_⟩)
    obtain ⟨a, xs, hv, r1, r2⟩ := e1.scT (X := X) qs
    cases hv
    refine ⟨a, rfl, ⟨xs, r1⟩, c _ [some (.ref a)] H1 rfl e1 ⟨fun {R zs} i σ H z ts hi e q hl => ?_, fun {R zs} σ H z ts e q hl => ?_, fun {R zs} i σ H z ts x H' t hi e q hl ht y => ?_⟩⟩
    · obtain ⟨a', xs, hv, r1, r2⟩ := ER.scT (X := X) e q
      cases hv
      exact ⟨xs, xs[i]'(by rw [r2.len, hl]; exact hi), r1, List.getElem?_eq_getElem _⟩
    · obtain ⟨a', xs, hv, r1, r2⟩ := ER.scT (X := X) e q
      cases hv
      exact ⟨xs, r1, by rw [r2.len, hl]; exact Nat.le_refl _⟩
    · obtain ⟨a', xs, hv, r1, r2⟩ := ER.scT (X := X) e q
      cases hv
      obtain ⟨rfl, hx⟩ := y
      obtain ⟨t', h1, h2⟩ := r2.at (hx xs (r1))
      rw [ht] at h1
      cases h1
      exact e.item h2
  · rename_i lo hi z2 hp
    obtain ⟨hb, q3⟩ := ite_n q2
    cases q3
    simp only [Bool.and_eq_true, decide_eq_true_eq] at hb
    obtain ⟨⟨⟨b1, b2⟩, b3⟩, b4⟩ := hb
    refine .inr (.inl ⟨R, zs, z, z1, er, q1, fun x H1 e1 => ?_⟩)
    obtain ⟨w, h1, r⟩ := ER.top e1 hp
    cases h1
    obtain ⟨a, rfl, ha⟩ := r.rng
    cases qs
    have hn : (rangeT lo hi).length = (hi - lo).toNat := by unfold rangeT; rw [List.length_map, List.length_range]
    refine ⟨a, lo, hi, rfl, ha, ⟨b1, b2, b3, b4⟩, c _ [some (.ref a)] H1 rfl e1 ?_⟩
    rw [hn]
    refine ⟨fun i σ H z ts hi e q hl => hi, fun σ H z ts e q hl => Nat.le_refl _, fun i σ H z us x H' t hi' e q hl ht y => ?_⟩
    obtain ⟨rfl, rfl⟩ := y
    cases q
    unfold rangeT at ht
    rw [List.getElem?_map, List.getElem?_range hi'] at ht
    cases ht
    exact e.item (.int _)
  · rename_i y z2 hp
    cases q2
    refine .inr (.inr ⟨R, zs, z, z1, er, q1, fun x H1 e1 => ?_⟩)
    obtain ⟨w, h1, r⟩ := ER.top e1 hp
    cases h1
    cases r.str
    cases qs
    have hn : (signsT y).length = y.cps.size := by unfold signsT; rw [List.length_map, Array.length_toList]
    refine ⟨y, rfl, c _ [some (.str y)] H1 rfl e1 ?_⟩
    rw [hn]
    refine ⟨fun i σ H z ts hi e q hl => walk_str.goes i H hi trivial, fun σ H z ts e q hl => walk_str.stops H trivial, fun i σ H z us x H' t hi' e q hl ht y => ?_⟩
    obtain ⟨rfl, k, hk, rfl⟩ := walk_str.yields i H x H' hi' trivial y
    cases q
    unfold signsT at ht
    rw [List.getElem?_map, Array.getElem?_toList, hk] at ht
    cases ht
    exact e.item (.str _)
  · cases q2⟩
end
end Fn
set_option Elab.async false
set_option linter.all false
set_option maxRecDepth 100000
set_option maxHeartbeats 4000000
namespace Fn
open PySem PySem.Spec PyProof.Rows L2 Rw
section
variable {X : Cx} {E : Ev} {e a b c : Expr} {es : List Expr} {pos : Pos} {f g : EF} {p : TF}
/-! range(a), range(a, b), enumerate(a), zip(a, b) -/
def inRng (i : Int) : Bool := decide (-(2 ^ 62) ≤ i) && decide (i < 2 ^ 62)
theorem inRng_ok {i : Int} (h : inRng i = true) : -(2 ^ 62) ≤ i ∧ i < 2 ^ 62 := by
  unfold inRng at h
  simpa using h
def fRg1 (f : EF) : IF := fun z => (f z).bind fun z1 => match pp z1 with
  | some (.int j, z2) => if inRng j = true then some (z2, scK (rangeT 0 j)) else none
  | _ => none
def fRg2 (f : EF) : IF := fun z => (f z).bind fun z1 => match pp z1 with
  | some (.int j, z2) => match pp z2 with
    | some (.int i, z3) => if (inRng i && inRng j) = true then some (z3, scK (rangeT i j)) else none
    | _ => none
  | _ => none
theorem wd_rng {E : Ev} (lo hi : Int) : WalkD E [] (rangeT lo hi).length (scK (rangeT lo hi)) (Itr lo (hi - lo).toNat) := by
  have hn : (rangeT lo hi).length = (hi - lo).toNat := by unfold rangeT; rw [List.length_map, List.length_range]
  rw [hn]
  refine ⟨fun {R zs} i σ H z ts hi e q hl => hi, fun {R zs} σ H z ts e q hl => Nat.le_refl _, fun {R zs} i σ H z us x H' t hi' e q hl ht y => ?_⟩
  obtain ⟨rfl, rfl⟩ := y
  cases q
  unfold rangeT at ht
  rw [List.getElem?_map, List.getElem?_range hi'] at ht
  cases ht
  exact e.item (.int _)
theorem id_rg1 {tg : Expr} (hq : ∀ {t : TA}, PA X [a] t → PI X tg e (iRng1 t)) (ha : AD X E [a] f) : ID X E tg e (fRg1 f) 0 := ⟨pi_imp (hq ha.pa) fun σ H Rk ⟨R, zs, z, z1, src, ts, er, q, qs, c⟩ => by
  obtain ⟨z0, q1, q2⟩ := Option.bind_eq_some_iff.mp q
  split at q2
  · rename_i j z2 hp
    obtain ⟨hb, q3⟩ := ite_n q2
    cases q3
    cases qs
    refine ⟨R, zs, z, z0, er, q1, fun vs H1 hl e1 => ?_⟩
    obtain ⟨v, rfl⟩ := ws1 hl
    obtain ⟨w, h1, e2, r⟩ := ER.pp (w := some v) (by simpa using e1) hp
    cases h1
    cases r.int
    refine ⟨j, rfl, (inRng_ok hb).1, (inRng_ok hb).2, ?_⟩
    have := c (Itr 0 (j - 0).toNat) [] H1 rfl e2 (wd_rng 0 j)
    rwa [Int.sub_zero] at this
  · cases q2⟩
theorem id_rg2 {tg : Expr} (hq : ∀ {t : TA}, PA X [a, b] t → PI X tg e (iRng2 t)) (ha : AD X E [a, b] f) : ID X E tg e (fRg2 f) 0 := ⟨pi_imp (hq ha.pa) fun σ H Rk ⟨R, zs, z, z1, src, ts, er, q, qs, c⟩ => by
  obtain ⟨z0, q1, q2⟩ := Option.bind_eq_some_iff.mp q
  split at q2
  · rename_i j z2 hp
    split at q2
    · rename_i i z3 hp2
      obtain ⟨hb, q3⟩ := ite_n q2
      cases q3
      cases qs
      rw [Bool.and_eq_true] at hb
      refine ⟨R, zs, z, z0, er, q1, fun vs H1 hl e1 => ?_⟩
      obtain ⟨v, v', rfl⟩ := ws2 hl
      obtain ⟨w, h1, e2, r⟩ := ER.pp (w := some v') (zs := some v :: zs) (by simpa using e1) hp
      cases h1
      cases r.int
      obtain ⟨w, h1, e3, r⟩ := ER.pp e2 hp2
      cases h1
      cases r.int
      exact ⟨i, j, rfl, ⟨(inRng_ok hb.1).1, (inRng_ok hb.1).2, (inRng_ok hb.2).1, (inRng_ok hb.2).2⟩, c (Itr i (j - i).toNat) [] H1 rfl e3 (wd_rng i j)⟩
    · cases q2
  · cases q2⟩
def enT (ts : List T) : List T := ts.zipIdx.map fun p => T.tup [.int (p.2 : Nat), p.1]
def scEL : Sc := fun z => (scL z).map enT
def scET : Sc := fun z => (scT z).map enT
def fEn (f : EF) : IF := fun z => (f z).bind fun z1 => match pp z1 with
  | some (.lst _, _) => some (z1, scEL)
  | some (.tup _, _) => some (z1, scET)
  | _ => none
theorem enT_at {ts : List T} {i : Nat} {t : T} (h : (enT ts)[i]? = some t) : ∃ u, ts[i]? = some u ∧ t = .tup [.int (i : Nat), u] := by
  unfold enT at h
  rw [List.getElem?_map] at h
  obtain ⟨⟨u, j⟩, h1, h2⟩ := Option.map_eq_some_iff.mp h
  rw [List.getElem?_zipIdx] at h1
  obtain ⟨u', h3, h4⟩ := Option.map_eq_some_iff.mp h1
  cases h4
  exact ⟨u, h3, by rw [← h2]; simp⟩
theorem enT_len (ts : List T) : (enT ts).length = ts.length := by unfold enT; rw [List.length_map, List.length_zipIdx]
theorem ER.pair {R : Rc} {σ zs : List (Option V)} {H : Hp} {z : Z} {p : Addr} {x y : V} {t u : T} (e : ER E R σ zs H z) (n : H p = none) (h1 : Rep E (Mz R σ zs z) H x t) (h2 : Rep E (Mz R σ zs z) H y u) : ER E R σ (some (.ref p) :: zs) (upd H p (.tup [x, y])) ⟨z.l, .val (.tup [t, u]) :: z.k⟩ :=
  ER.pres (l := z.l) (k := z.k) e (res_t e.trk n (.cons h1 (.cons h2 .nil)))
theorem id_en [EX X E] {tg : Expr} (hq : ∀ {t : TA}, PA X [a] t → PI X tg e (iEnum X.K t)) (hq2 : ∀ {t : TA}, PA X [a] t → PI X tg e (iEnumT X.K t)) (ha : AD X E [a] f) : ID X E tg e (fEn f) 1 := ⟨pi_imp (pi_either (hq ha.pa) (hq2 ha.pa)) fun σ H Rk ⟨R, zs, z, z1, src, ts, er, q, qs, c⟩ => by
  obtain ⟨z0, q1, q2⟩ := Option.bind_eq_some_iff.mp q
  split at q2
  · cases q2
    refine .inl ⟨R, zs, z, z1, er, q1, fun vs H1 hl e1 => ?_⟩
    obtain ⟨v, rfl⟩ := ws1 hl
    obtain ⟨us, k1, k2⟩ := Option.map_eq_some_iff.mp qs
    have e1' : ER E R σ (some v :: zs) H1 z1 := by simpa using e1
    obtain ⟨a, xs, hv, r1, r2⟩ := e1'.scL k1
    cases hv
    refine ⟨a, xs, rfl, .inl r1, c _ [some (.ref a)] H1 rfl e1' ?_⟩
    rw [← k2, enT_len]
    refine ⟨fun {R zs} i σ H z ts hi e q hl => ?_, fun {R zs} σ H z ts e q hl => ?_, fun {R zs} i σ H z ts x H' t hi e q hl ht y => ?_⟩
    · obtain ⟨us', k1, rfl⟩ := Option.map_eq_some_iff.mp q
      obtain ⟨a', xs, hv, r1, r2⟩ := ER.scL e k1
      cases hv
      rw [enT_len] at hl
      exact (walk_enum (K := X.K) (a := a) (xs := xs)).goes i H (by rw [r2.len, hl]; exact hi) (.inl r1)
    · obtain ⟨us', k1, rfl⟩ := Option.map_eq_some_iff.mp q
      obtain ⟨a', xs, hv, r1, r2⟩ := ER.scL e k1
      cases hv
      rw [enT_len] at hl
      have := (walk_enum (K := X.K) (a := a) (xs := xs)).stops H (.inl r1)
      rwa [r2.len, hl] at this
    · obtain ⟨us', k1, rfl⟩ := Option.map_eq_some_iff.mp q
      obtain ⟨a', xs, hv, r1, r2⟩ := ER.scL e k1
      cases hv
      rw [enT_len] at hl
      obtain ⟨p, x1, x2, rfl, np, rfl, h1, h2⟩ := (walk_enum (K := X.K) (a := a) (xs := xs)).yields i H x H' (by rw [r2.len, hl]; exact hi) (.inl r1) y
      cases h1
      obtain ⟨u, h3, rfl⟩ := enT_at ht
      obtain ⟨u', h4, h5⟩ := r2.at h2
      rw [h3] at h4
      cases h4
      exact e.pair np (.int _) h5
  · cases q2
    refine .inr ⟨R, zs, z, z1, er, q1, fun vs H1 hl e1 => ?_⟩
    obtain ⟨v, rfl⟩ := ws1 hl
    obtain ⟨us, k1, k2⟩ := Option.map_eq_some_iff.mp qs
    have e1' : ER E R σ (some v :: zs) H1 z1 := by simpa using e1
    obtain ⟨a, xs, hv, r1, r2⟩ := e1'.scT (X := X) k1
    cases hv
    refine ⟨a, xs, rfl, r1, c _ [some (.ref a)] H1 rfl e1' ?_⟩
    rw [← k2, enT_len]
    refine ⟨fun {R zs} i σ H z ts hi e q hl => ?_, fun {R zs} σ H z ts e q hl => ?_, fun {R zs} i σ H z ts x H' t hi e q hl ht y => ?_⟩
    · obtain ⟨us', k1, rfl⟩ := Option.map_eq_some_iff.mp q
      obtain ⟨a', xs, hv, r1, r2⟩ := ER.scT (X := X) e k1
      cases hv
      rw [enT_len] at hl
      exact (walk_enumT (K := X.K) (a := a) (xs := xs)).goes i H (by rw [r2.len, hl]; exact hi) (r1)
    · obtain ⟨us', k1, rfl⟩ := Option.map_eq_some_iff.mp q
      obtain ⟨a', xs, hv, r1, r2⟩ := ER.scT (X := X) e k1
      cases hv
      rw [enT_len] at hl
      have := (walk_enumT (K := X.K) (a := a) (xs := xs)).stops H (r1)
      rwa [r2.len, hl] at this
    · obtain ⟨us', k1, rfl⟩ := Option.map_eq_some_iff.mp q
      obtain ⟨a', xs, hv, r1, r2⟩ := ER.scT (X := X) e k1
      cases hv
      rw [enT_len] at hl
      obtain ⟨p, x1, x2, rfl, np, rfl, h1, h2⟩ := (walk_enumT (K := X.K) (a := a) (xs := xs)).yields i H x H' (by rw [r2.len, hl]; exact hi) (r1) y
      cases h1
      obtain ⟨u, h3, rfl⟩ := enT_at ht
      obtain ⟨u', h4, h5⟩ := r2.at h2
      rw [h3] at h4
      cases h4
      exact e.pair np (.int _) h5
  · cases q2⟩
end
/-! ### comprehensions -/
section
variable {E : Ev} {R : Rc} {σ zs ws : List (Option V)} {H : Hp} {z : Z} {l k : List Sl}
def wipeL (l : List Sl) : List Nat → List Sl
  | [] => l
  | v :: vs => (wipeL l vs).set v .no
/-- these locals are forgotten: they are nobody's own, nothing on the stack is the same as one -/
def zw (vs : List Nat) (z : Z) : Option Z := if (vs.all fun v => noAli v z.k && match z.l[v]? with
    | some (.io _) => false
    | _ => true) = true then some ⟨wipeL z.l vs, z.k⟩ else none
theorem ER.no1 {i : Nat} {w : Option V} (e : ER E R σ zs H ⟨l, k⟩) (ha : noAli i k = true) (hio : ∀ t, l[i]? ≠ some (.io t)) : ER E R (σ.set i w) zs H ⟨l.set i .no, k⟩ := by
  by_cases hi : i < l.length
  · obtain ⟨s, hs⟩ : ∃ s, l[i]? = some s := ⟨_, List.getElem?_eq_getElem hi⟩
    obtain ⟨w0, hw, _⟩ := loc_at e.ll hs
    have hi' : i < σ.length := (List.getElem?_eq_some_iff.mp hw).1
    refine ⟨by rw [List.length_set, List.length_set]; exact e.ll, e.lk, ?_, fun w' j m => ?_, fun s' hs' => ?_, e.nk, fun j t hj => ?_⟩
    · exact (((e.ok.perm (pz_loc hw hs)).tail).more (x := (w, Sl.no)) rfl (fun _ q => nomatch q)).perm (pz_set hw hs).symm
    · obtain ⟨h1, s1, h2, h3⟩ := e.al w' j m
      have : j ≠ i := by
        have := List.all_eq_true.mp ha _ (List.of_mem_zip m).2
        simpa using this
      exact ⟨by rw [set_same this.symm]; exact h1, s1, by rw [set_same this.symm]; exact h2, h3⟩
    · rcases List.mem_or_eq_of_mem_set hs' with hs' | rfl
      · exact e.nl s' hs'
      · rfl
    · by_cases hj2 : i = j
      · subst hj2; rw [List.getElem?_set_self hi] at hj; cases hj
      · rw [set_same hj2] at hj ⊢; exact e.io j t hj
  · have hle : σ.length ≤ i := by have := e.ll; dsimp only at this; omega
    rw [List.set_eq_of_length_le hle, List.set_eq_of_length_le (by omega)]
    exact e
theorem wipeL_io {i : Nat} {t : T} : ∀ {vs : List Nat}, (wipeL l vs)[i]? = some (.io t) → l[i]? = some (.io t)
  | [], h => h
  | v :: vs, h => by
    unfold wipeL at h
    by_cases hv : v = i
    · subst hv
      by_cases hl : v < (wipeL l vs).length
      · rw [List.getElem?_set_self hl] at h; cases h
      · rw [List.getElem?_eq_none (by simpa using hl)] at h; cases h
    · rw [set_same hv] at h; exact wipeL_io h
theorem ER.wipe : ∀ {vs : List Nat}, ER E R σ zs H ⟨l, k⟩ → (∀ v ∈ vs, noAli v k = true ∧ ∀ t, l[v]? ≠ some (.io t)) → ER E R (L2.wipe σ vs) zs H ⟨wipeL l vs, k⟩
  | [], e, _ => e
  | v :: vs, e, h => (ER.wipe e fun u hu => h u (List.mem_cons_of_mem _ hu)).no1 (h v List.mem_cons_self).1 fun t q => (h v List.mem_cons_self).2 t (wipeL_io q)
theorem zw_ok {vs : List Nat} {z' : Z} (q : zw vs z = some z') : z' = ⟨wipeL z.l vs, z.k⟩ ∧ ∀ v ∈ vs, noAli v z.k = true ∧ ∀ t, z.l[v]? ≠ some (.io t) := by
  obtain ⟨h1, h2⟩ := ite_some' q
  refine ⟨h2.symm, fun v hv => ?_⟩
  have := List.all_eq_true.mp h1 v hv
  rw [Bool.and_eq_true] at this
  refine ⟨this.1, fun t ht => ?_⟩
  rw [ht] at this
  cases this.2
theorem ER.zw {vs : List Nat} {z' : Z} (e : ER E R σ zs H z) (q : Fn.zw vs z = some z') : ER E R (L2.wipe σ vs) zs H z' := by
  obtain ⟨rfl, h⟩ := zw_ok q
  exact ER.wipe (l := z.l) (k := z.k) e h
theorem wipeL_at {v : Nat} : ∀ {vs : List Nat}, v ∈ vs → v < l.length → (wipeL l vs)[v]? = some .no
  | u :: vs, h, hl => by
    have len : ∀ vs, (wipeL l vs).length = l.length := fun vs => by
      induction vs with
      | nil => rfl
      | cons u vs ih => unfold wipeL; rw [List.length_set, ih]
    unfold wipeL
    by_cases hu : u = v
    · subst hu; rw [List.getElem?_set_self (by rw [len]; exact hl)]
    · rw [set_same hu]
      exact wipeL_at ((List.mem_cons.mp h).resolve_left fun z => hu z.symm) hl
/-- back among the locals: what was forgotten stays forgotten -/
theorem ER.unno {i : Nat} {w : Option V} (e : ER E R (σ.set i w) zs H ⟨l, k⟩) (h : i < l.length → l[i]? = some .no) : ER E R σ zs H ⟨l, k⟩ := by
  by_cases hi : i < l.length
  · have hs := h hi
    have hlen : σ.length = l.length := by have := e.ll; rw [List.length_set] at this; exact this
    have hi' : i < σ.length := by omega
    have hw : (σ.set i w)[i]? = some w := List.getElem?_set_self hi'
    have hw0 : σ[i]? = some σ[i] := List.getElem?_eq_getElem hi'
    have er : (σ.set i w).eraseIdx i = σ.eraseIdx i := erase_set σ i w
    refine ⟨hlen, e.lk, ?_, fun w' j m => ?_, e.nl, e.nk, fun j t hj => ?_⟩
    · have g := (e.ok.perm (pz_loc hw hs)).tail
      rw [er] at g
      exact (g.more (x := (σ[i], Sl.no)) rfl (fun _ q => nomatch q)).perm (pz_loc hw0 hs).symm
    · obtain ⟨h1, s1, h2, h3⟩ := e.al w' j m
      have : i ≠ j := by
        rintro rfl
        rw [show (Z.mk l k).l[i]? = some Sl.no from hs] at h2
        cases h2
        cases h3
      rw [set_same this] at h1
      exact ⟨h1, s1, h2, h3⟩
    · have : i ≠ j := by
        rintro rfl
        rw [show (Z.mk l k).l[i]? = some Sl.no from hs] at hj
        cases hj
      have := e.io j t hj
      rwa [set_same ‹i ≠ j›] at this
  · have hlen : σ.length = l.length := by have := e.ll; rw [List.length_set] at this; exact this
    rwa [List.set_eq_of_length_le (show σ.length ≤ i by omega)] at e
theorem ER.unwipe : ∀ {vs : List Nat}, ER E R (L2.wipe σ vs) zs H ⟨l, k⟩ → (∀ v ∈ vs, v < l.length → l[v]? = some .no) → ER E R σ zs H ⟨l, k⟩
  | [], e, _ => e
  | v :: vs, e, h => ER.unwipe (vs := vs) (ER.unno (i := v) (w := none) e (h v List.mem_cons_self)) fun u hu => h u (List.mem_cons_of_mem _ hu)
/-- these locals are forgotten -/
def areNo (vs : List Nat) (z : Z) : Bool := vs.all fun v => match z.l[v]? with
  | some .no => true
  | none => true
  | _ => false
theorem ER.areNo {vs : List Nat} (e : ER E R (L2.wipe σ vs) zs H z) (h : Fn.areNo vs z = true) : ER E R σ zs H z := by
  refine ER.unwipe (l := z.l) (k := z.k) e fun v hv hl => ?_
  have := List.all_eq_true.mp h v hv
  split at this
  · assumption
  · rename_i q
    rw [List.getElem?_eq_getElem hl] at q
    cases q
  · cases this
end
end Fn
set_option Elab.async false
set_option linter.all false
set_option maxRecDepth 100000
set_option maxHeartbeats 4000000
namespace Fn
open PySem PySem.Spec PyProof.Rows L2 Rw
section
variable {E : Ev} {R : Rc} {σ zs ws : List (Option V)} {H : Hp} {z : Z} {l k : List Sl}
/-- below the m on the top -/
def ins (m : Nat) (s : Sl) (z : Z) : Z := ⟨z.l, z.k.take m ++ s :: z.k.drop m⟩
theorem zip_mid {α β : Type} : ∀ {xs ys : List α} {us : List β} {x : α} {u : β}, xs.length ≤ us.length → ((x, u) :: (xs ++ ys).zip us).Perm ((xs ++ x :: ys).zip (us.take xs.length ++ u :: us.drop xs.length))
  | [], ys, us, x, u, _ => .refl _
  | a :: xs, ys, [], x, u, h => by simp at h
  | a :: xs, ys, b :: us, x, u, h => by
    have := zip_mid (xs := xs) (ys := ys) (us := us) (x := x) (u := u) (by simpa using h)
    exact (List.Perm.swap ..).trans (this.cons (a, b))
theorem ER.ins {w : Option V} {s : Sl} {m : Nat} (e : ER E R σ (w :: (ws ++ zs)) H ⟨z.l, s :: z.k⟩) (hm : ws.length = m) : ER E R σ (ws ++ w :: zs) H (Fn.ins m s z) := by
  subst hm
  have hl := e.lk
  simp at hl
  have hle : ws.length ≤ z.k.length := by rw [← hl]; omega
  have p := zip_mid (xs := ws) (ys := zs) (us := z.k) (x := w) (u := s) hle
  refine ⟨e.ll, ?_, e.ok.perm (List.Perm.append_left _ p), fun w' j m => e.al w' j (p.mem_iff.mpr m), e.nl, fun s' hs => e.nk s' ?_, e.io⟩
  · unfold Fn.ins
    simp only [List.length_append, List.length_cons, List.length_take, List.length_drop]
    omega
  · have : (z.k.take ws.length ++ s :: z.k.drop ws.length).Perm (s :: z.k) := by
      have h := List.perm_middle (a := s) (l₁ := z.k.take ws.length) (l₂ := z.k.drop ws.length)
      rwa [List.take_append_drop] at h
    exact this.mem_iff.mp hs
/-- the list m below the top grows -/
def app (m : Nat) (t : T) (z : Z) : Option Z := match z.k.drop m with
  | .own (.lst us) :: k2 => if Nat.blt us.length sizeLine = true then some ⟨z.l, z.k.take m ++ .own (.lst (us ++ [t])) :: k2⟩ else none
  | _ => none
theorem zip_split {α β : Type} : ∀ {xs ys : List α} {us : List β} {x : α} {u : β} {vs : List β}, us.drop xs.length = u :: vs → ((xs ++ x :: ys).zip us).Perm ((x, u) :: (xs.zip (us.take xs.length) ++ ys.zip vs))
  | [], ys, us, x, u, vs, h => by
    simp at h
    subst h
    exact .refl _
  | a :: xs, ys, [], x, u, vs, h => by simp at h
  | a :: xs, ys, b :: us, x, u, vs, h => by
    have := zip_split (xs := xs) (ys := ys) (us := us) (x := x) (u := u) (vs := vs) (by simpa using h)
    exact (this.cons (a, b)).trans (.swap ..)
theorem ER.app {D : Addr} {m : Nat} {y : V} {t : T} {z' : Z} (e : ER E R σ (ws ++ some (.ref D) :: zs) H z) (hm : ws.length = m) (hr : Rep E (Mz R σ (ws ++ some (.ref D) :: zs) z) H y t) (q : Fn.app m t z = some z') :
    ∃ acc, H D = some (.lst acc) ∧ acc.length < sizeLine ∧ ER E R σ (ws ++ some (.ref D) :: zs) (upd H D (.lst (acc ++ [y]))) z' := by
  subst hm
  unfold Fn.app at q
  split at q
  · rename_i us k2 hk
    obtain ⟨h1, h2⟩ := ite_some' q
    subst h2
    have p := zip_split (xs := ws) (ys := zs) (us := z.k) (x := some (.ref D)) hk
    have P : (Pz σ (ws ++ some (.ref D) :: zs) z).Perm ((some (.ref D), .own (.lst us)) :: (σ.zip z.l ++ (ws.zip (z.k.take ws.length) ++ zs.zip k2))) := (List.Perm.append_left _ p).trans List.perm_middle
    have g := e.ok.perm P
    obtain ⟨a, ea, _, _, o, ho, acc, rfl, hc⟩ := g.hd (t := .lst us) rfl
    cases ea
    refine ⟨acc, ho, by rw [hc.len]; exact Nat.le_of_ble_eq_true h1, ?_⟩
    have hle : ws.length ≤ z.k.length := by
      have : (z.k.drop ws.length).length = k2.length + 1 := by rw [hk]; rfl
      rw [List.length_drop] at this
      omega
    have lt : (z.k.take ws.length).length = ws.length := by rw [List.length_take]; omega
    have hk' : (z.k.take ws.length ++ Sl.own (.lst (us ++ [t])) :: k2).drop ws.length = Sl.own (.lst (us ++ [t])) :: k2 := by rw [List.drop_append_of_le_length (by omega)]; rw [List.drop_of_length_le (by omega)]; rfl
    have ht' : (z.k.take ws.length ++ Sl.own (.lst (us ++ [t])) :: k2).take ws.length = z.k.take ws.length := by rw [List.take_append_of_le_length (by omega), List.take_take, Nat.min_self]
    have p' := zip_split (xs := ws) (ys := zs) (x := some (.ref D)) hk'
    rw [ht'] at p'
    have P' : (Pz σ (ws ++ some (.ref D) :: zs) ⟨z.l, z.k.take ws.length ++ Sl.own (.lst (us ++ [t])) :: k2⟩).Perm ((some (.ref D), .own (.lst (us ++ [t]))) :: (σ.zip z.l ++ (ws.zip (z.k.take ws.length) ++ zs.zip k2))) := (List.Perm.append_left _ p').trans List.perm_middle
    have g' := g.wr (t' := .lst (us ++ [t])) (o := .lst (acc ++ [y])) rfl rfl (.inl ⟨rfl, rfl⟩) ⟨_, rfl, hc.app (.cons (hr.an fun b m => (mx_perm P b).mpr m) .nil)⟩
    refine ⟨e.ll, ?_, g'.perm P'.symm, fun w j m => ?_, e.nl, fun s hs => ?_, e.io⟩
    · have := e.lk
      have h3 : (z.k.drop ws.length).length = k2.length + 1 := by rw [hk]; rfl
      rw [List.length_drop] at h3
      simp only [List.length_append, List.length_cons, lt] at this ⊢
      omega
    · have m1 := p'.mem_iff.mp m
      rcases List.mem_cons.mp m1 with m1 | m1
      · cases m1
      · exact e.al w j (p.mem_iff.mpr (List.mem_cons_of_mem _ m1))
    · rcases List.mem_append.mp hs with hs | hs
      · exact e.nk s (List.mem_of_mem_take hs)
      · rcases List.mem_cons.mp hs with rfl | hs
        · rfl
        · exact e.nk s (List.mem_of_mem_drop (i := ws.length) (by rw [hk]; exact List.mem_cons_of_mem _ hs))
  · cases q
end
section
variable {X : Cx} {E : Ev} {e a b c elt : Expr} {es : List Expr} {pos : Pos} {f g fe : EF} {p : TF}
structure TsD (X : Cx) (E : Ev) (ifs : List Expr) (f : TF) : Prop where
  pts : PTs X ifs (tT E f)
theorem pts_imp {ifs : List Expr} {t t' : TT} (h : PTs X ifs t) (k : ∀ σ H Q, t' σ H Q → t σ H Q) : PTs X ifs t' := ⟨fun pins s σ H Q I q => h.run pins s σ H Q I (k σ H Q q)⟩
def gYes : TF := fun z => some (true, z)
theorem tsd_nil : TsD X E [] gYes := ⟨pts_imp pts_nil fun σ H Q ⟨R, zs, z, b, z', er, q, c⟩ => by cases q; exact c H er⟩
theorem tsd_one (h : TD X E c p) : TsD X E [c] p := ⟨pts_one h.pt⟩
/-- one turn: the element, appended to the list below the m of the source; the block's names forgotten -/
def lcE (m : Nat) (vs : List Nat) (p : TF) (fe : EF) : EF := fun z => (p z).bind fun x => if x.1 = true then (((fe x.2).bind fz).bind fun y => app m y.1 y.2).bind (zw vs) else zw vs x.2
def lcL (src : Sc) (m n : Nat) (vs : List Nat) (g : GF) (p : TF) (fe : EF) : Nat → EF
  | 0 => fun z => (src z).bind fun ts => if (ts.length == n) = true then some (drN m z) else none
  | r + 1 => fun z => (src z).bind fun ts => if (ts.length == n) = true then (ts[n - (r + 1)]?).bind fun x => ((g ⟨z.l, .val x :: z.k⟩).bind (lcE m vs p fe)).bind (lcL src m n vs g p fe r) else none
def fLc (fi : IF) (m : Nat) (vs : List Nat) (g : GF) (p : TF) (fe : EF) : EF := fun z => (fi z).bind fun x => (x.2 x.1).bind fun ts => ((zw vs (ins m (.own (.lst [])) x.1)).bind (lcL x.2 m ts.length vs g p fe ts.length)).bind fun z' => if areNo vs z' = true then some z' else none
theorem wipe_wipe {σ : L2.St} (vs : List Nat) : wipe (wipe σ vs) vs = wipe σ vs := by
  have h : ∀ (us : List Nat) (τ : L2.St), (∀ u ∈ us, ∀ w, τ[u]? = some w → w = none) → wipe τ us = τ := by
    intro us
    induction us with
    | nil => exact fun _ _ => rfl
    | cons u us ih =>
      intro τ hτ
      unfold wipe
      rw [ih τ fun v hv => hτ v (List.mem_cons_of_mem _ hv)]
      apply List.ext_getElem?
      intro i
      by_cases hi : u = i
      · subst hi
        by_cases hl : u < τ.length
        · rw [List.getElem?_set_self hl]
          have := hτ u List.mem_cons_self τ[u] (List.getElem?_eq_getElem hl)
          rw [List.getElem?_eq_getElem hl, this]
        · rw [List.getElem?_eq_none (by simpa using hl), List.getElem?_eq_none (by omega)]
      · rw [List.getElem?_set_ne hi]
  refine h vs _ fun u hu w hw => ?_
  cases w with
  | none => rfl
  | some v => exact absurd hu (wipe_some hw).2
theorem ed_lcD {is vs : List Nat} {fi : IF} {m : Nat} {gg : GF} {σ : L2.St} {H : Hp} {Q : VK} (hs : ∀ i ∈ is, i ∈ vs) (h : tE E (fLc fi m vs gg p fe) σ H Q) : tLc (tI E fi m) (tG E is gg) (tT E p) (tE E fe) vs σ H Q := by
  obtain ⟨R, zs, z, z', er, q, c⟩ := h
  obtain ⟨⟨z1, src⟩, q1, q2⟩ := Option.bind_eq_some_iff.mp q
  obtain ⟨ts, q3, q4⟩ := Option.bind_eq_some_iff.mp q2
  obtain ⟨z4, q5, q6⟩ := Option.bind_eq_some_iff.mp q4
  obtain ⟨z3, q7, q8⟩ := Option.bind_eq_some_iff.mp q5
  obtain ⟨q9, q10⟩ := ite_some' q6
  subst q10
  dsimp only at q3 q7 q8
  refine ⟨R, zs, z, z1, src, ts, er, q1, q3, fun J ws H1 hw e1 wd D hD => ?_⟩
  have e2 : ER E R (wipe σ vs) (ws ++ some (.ref D) :: zs) (upd H1 D (.lst [])) z3 := (ER.ins (ER.pown (l := z1.l) (k := z1.k) (t := .lst []) (o := .lst []) e1 hD ⟨[], rfl, .nil⟩) hw).zw q7
  generalize ts.length = n at wd q8
  refine ⟨fun i r H => i + r = n ∧ ∃ z, ER E R (wipe σ vs) (ws ++ some (.ref D) :: zs) H z ∧ lcL src m n vs gg p fe r z = some z4, ⟨n, by omega, z3, e2, q8⟩, ?_⟩
  rintro i r H ⟨hir, z, er, q⟩
  cases r with
  | zero =>
    obtain ⟨us, r5, r6⟩ := Option.bind_eq_some_iff.mp q
    obtain ⟨r7, r8⟩ := ite_some' r6
    subst r8
    have hi : i = n := by omega
    subst hi
    refine .inl ⟨wd.stop _ H z us er r5 (eq_of_beq r7), c _ H ?_⟩
    have e3 := er.drN
    rw [hw] at e3
    exact e3.areNo q9
  | succ r =>
    obtain ⟨us, q5, q6⟩ := Option.bind_eq_some_iff.mp q
    obtain ⟨q7, q8⟩ := ite_n q6
    obtain ⟨t, q9, q10⟩ := Option.bind_eq_some_iff.mp q8
    obtain ⟨z6, q11, q12⟩ := Option.bind_eq_some_iff.mp q10
    obtain ⟨z5, q13, q14⟩ := Option.bind_eq_some_iff.mp q11
    have hi : n - (r + 1) = i := by omega
    rw [hi] at q9
    refine .inr ⟨wd.go i _ H z us (by omega) er q5 (eq_of_beq q7), fun H => i + 1 + r = n ∧ ∃ z, ER E R (wipe σ vs) (ws ++ some (.ref D) :: zs) H z ∧ lcL src m n vs gg p fe r z = some z4, fun H' h => ⟨r, Nat.lt_succ_self r, h⟩, fun x H' y => ?_⟩
    refine ⟨R, _, _, z5, wd.yld i _ H z us x H' t (by omega) er q5 (eq_of_beq q7) q9 y, q13, fun σ2 H2 w2 e2 => ?_⟩
    have hwp : wipe σ2 vs = wipe σ vs := (w2 vs hs).trans (wipe_wipe vs)
    refine ⟨hwp, ?_⟩
    obtain ⟨⟨b, z7⟩, q15, q16⟩ := Option.bind_eq_some_iff.mp q14
    refine ⟨R, _, z5, b, z7, e2, q15, fun H3 e3 => ?_⟩
    cases b with
    | false =>
      have e4 : ER E R (wipe σ2 vs) _ H3 z6 := e3.zw q16
      rw [hwp] at e4
      exact ⟨by omega, z6, e4, q12⟩
    | true =>
      obtain ⟨z8, q17, q18⟩ := Option.bind_eq_some_iff.mp q16
      obtain ⟨⟨ty, z9⟩, q19, q20⟩ := Option.bind_eq_some_iff.mp q17
      obtain ⟨z10, q21, q22⟩ := Option.bind_eq_some_iff.mp q19
      refine ⟨R, _, z7, z10, e3, q21, fun y H4 e4 => ?_⟩
      obtain ⟨_, h1, e5, r5⟩ := e4.fz q22
      cases h1
      obtain ⟨acc, h6, h7, e6⟩ := e5.app hw r5 q20
      refine ⟨acc, h6, h7, by omega, z6, ?_, q12⟩
      have e7 : ER E R (wipe σ2 vs) _ _ z6 := e6.zw q18
      rwa [hwp] at e7
/-- [elt for tg in iter if ..] -/
theorem ed_lc {is : List Nat} {fi : IF} {m : Nat} {gg : GF} {tg iter : Expr} {ifs : List Expr} {scope : Scope} {own : List (Str × Nat)} (hc : X.calm = true) (hN : X.N.Nodup) (hi : ID X E tg iter fi m) (ok : BlkOk X.N X.env.scope scope own)
    (hg : ∀ (s : Shared) (H : Hp) (C : Addr) (cl : List (Str × Addr)) (fp : List Addr), GD (X.blk s H scope (compEnvC scope cl C X.env) fp) E tg is gg) (ht : ∀ (s : Shared) (H : Hp) (C : Addr) (cl : List (Str × Addr)) (fp : List Addr), TsD (X.blk s H scope (compEnvC scope cl C X.env) fp) E ifs p)
    (he : ∀ (s : Shared) (H : Hp) (C : Addr) (cl : List (Str × Addr)) (fp : List Addr), ED (X.blk s H scope (compEnvC scope cl C X.env) fp) E elt fe) (hs : ∀ i ∈ is, i ∈ own.map (·.2)) (hf : ∀ x, foldedSetIterable iter X.env x = pure x := by intro _; rfl) :
    ED X E (.ListComp elt [⟨tg, iter, ifs, 0⟩] scope pos) (fLc fi m (own.map (·.2)) gg p fe) :=
  ⟨pe_imp (pe_lc hc hN hi.pi ok (fun s H C cl fp => (hg s H C cl fp).pg) (fun s H C cl fp => (ht s H C cl fp).pts) (fun s H C cl fp => (he s H C cl fp).pe) hf) fun σ H Q h => ed_lcD hs h⟩
end
end Fn
set_option Elab.async false
set_option linter.all false
set_option maxRecDepth 100000
set_option maxHeartbeats 4000000
/-! own layer, data: calls of defs -/
namespace Fn
open PySem PySem.Spec PyProof.Rows L2 Rw
/-- what a def does with trees: the arguments' slots; what may have changed of them, what comes -/
abbrev FT := List Sl → Option (List Sl × Sl)
def isArg : Sl → Bool
  | .val _ => true
  | .io _ => true
  | _ => false
def ioOf : Sl → Sl
  | .io t => .io t
  | _ => .no
/-- a slot as an argument's -/
def toArg : Sl → Sl
  | .own t => .io t
  | s => s
/-- a slot that was lent, behind the call -/
def bk : Sl → Sl → Sl
  | .own _, .io t => .own t
  | .io _, .io t => .io t
  | _, _ => .no
def okOut : List Sl → List Sl → Bool
  | [], [] => true
  | .own _ :: ss, .io _ :: os => okOut ss os
  | .io _ :: ss, .io _ :: os => okOut ss os
  | .val _ :: ss, .no :: os => okOut ss os
  | _, _ => false
def isRes : Sl → Bool
  | .val _ => true
  | .own _ => true
  | _ => false
/-- what is handed over; the locals without what is lent -/
def lend (l : List Sl) : List Sl → Option (List Sl × List Sl)
  | [] => some ([], l)
  | .val t :: ks => (lend l ks).map fun x => (.val t :: x.1, x.2)
  | .ali j :: ks => match l[j]? with
    | some (.val t) => (lend l ks).map fun x => (.val t :: x.1, x.2)
    | some (.own t) => (lend (l.set j .no) ks).map fun x => (.own t :: x.1, x.2)
    | some (.io t) => (lend (l.set j .no) ks).map fun x => (.io t :: x.1, x.2)
    | _ => none
  | _ => none
def back (m : List Sl) : List Sl → List Sl → List Sl → List Sl
  | .ali j :: ks, .own t :: ss, o :: os => (back m ks ss os).set j (bk (.own t) o)
  | .ali j :: ks, .io t :: ss, o :: os => (back m ks ss os).set j (bk (.io t) o)
  | _ :: ks, _ :: ss, _ :: os => back m ks ss os
  | _, _, _ => m
/-- behind the evaluation of the arguments: ks are theirs by the parameters, m of them stand on the stack -/
def callK (m : Nat) (F : FT) (l k ks : List Sl) : Option Z := (lend l ks).bind fun y => (F (y.1.map toArg)).bind fun x => if (okOut y.1 x.1 && isRes x.2) = true then some ⟨back y.2 ks y.1 x.1, x.2 :: k.drop m⟩ else none
section
variable {E : Ev} {R : Rc} {σ zs : List (Option V)} {H H' : Hp} {z z' : Z} {l k ks : List Sl}
/-- a part of the slots -/
theorem Good.drop1 {x : Pr2} {P Q : List Pr2} (g : Good E R H (P ++ x :: Q)) : Good E R H (P ++ Q) := (g.perm List.perm_middle).tail
theorem Good.pre {P : List Pr2} : ∀ {Q : List Pr2}, Good E R H (P ++ Q) → Good E R H P
  | [], g => by simpa using g
  | x :: Q, g => Good.pre (Q := Q) g.drop1
theorem Good.s0 {FB M0 : Addr → Prop} {H0 : Hp} {a b : List (Option V)} {P : List Pr2} (g : Good E ⟨FB, M0, H0, a⟩ H P) : Good E ⟨FB, M0, H0, b⟩ H P := ⟨g.val, g.own, g.fr, g.m0, g.inj, g.kp, g.mt, g.ft, g.tb⟩
/-- some slots are forgotten -/
def Wk (y' y : Pr2) : Prop := y' = y ∨ y'.2 = .no
theorem wk_own {y' y : Pr2} (h : Wk y' y) {a : Addr} (o : ownA y' a) : ownA y a := by
  rcases h with rfl | h
  · exact o
  · obtain ⟨⟨t, e⟩, _⟩ := o
    rw [h] at e; cases e
theorem paired_mem {α β : Type} {F : α → β → Prop} : ∀ {xs : List α} {ys : List β} {x : α}, Paired F xs ys → x ∈ xs → ∃ y ∈ ys, F x y
  | _, _, _, .nil, h => by cases h
  | _, _, _, .cons r s, h => by
    rcases List.mem_cons.mp h with rfl | h
    · exact ⟨_, List.mem_cons_self, r⟩
    · obtain ⟨y, h1, h2⟩ := paired_mem s h
      exact ⟨y, List.mem_cons_of_mem _ h1, h2⟩
theorem pair_imp {D : Pr2 → Pr2 → Prop} {G : Pr2 → Pr2 → Prop} (hD : ∀ {x' x y' y}, G x' x → G y' y → D x y → D x' y') : ∀ {P' P : List Pr2}, Paired G P' P → P.Pairwise D → P'.Pairwise D
  | _, _, .nil, h => .nil
  | _, _, .cons r s, h => by
    obtain ⟨h1, h2⟩ := List.pairwise_cons.mp h
    refine List.pairwise_cons.mpr ⟨fun y' hy' => ?_, @pair_imp D G @hD _ _ s h2⟩
    obtain ⟨y, h3, h4⟩ := paired_mem s hy'
    exact hD r h4 (h1 y h3)
theorem Good.wk {P' P : List Pr2} (g : Good E R H P) (h : Paired Wk P' P) : Good E R H P' := by
  have mw : ∀ a, Mw P' a → Mw P a := fun a ⟨x, hx, o⟩ => let ⟨y, hy, k⟩ := paired_mem h hx; ⟨y, hy, wk_own k o⟩
  have mx : ∀ a, Mx R P' a → Mx R P a := fun a z => z.imp id (mw a)
  refine ⟨fun x hx t e => ?_, fun x hx t e => ?_, fun x hx t a e1 e2 => ?_, fun x hx t a e1 e2 => ?_, ?_, g.kp, g.mt, g.ft, g.tb⟩
  · obtain ⟨y, hy, rfl | k⟩ := paired_mem h hx
    · obtain ⟨v, h1, h2⟩ := g.val _ hy t e
      exact ⟨v, h1, h2.an mx⟩
    · rw [k] at e; cases e
  · obtain ⟨y, hy, rfl | k⟩ := paired_mem h hx
    · obtain ⟨a, h1, h2, h3⟩ := g.own _ hy t e
      exact ⟨a, h1, h2, h3.mv (fun b o eb m => ⟨eb, fun z => m (mx b z)⟩) rfl⟩
    · rw [k] at e; cases e
  · obtain ⟨y, hy, rfl | k⟩ := paired_mem h hx
    · exact g.fr _ hy t a e1 e2
    · rw [k] at e1; cases e1
  · obtain ⟨y, hy, rfl | k⟩ := paired_mem h hx
    · exact g.m0 _ hy t a e1 e2
    · rw [k] at e1; cases e1
  · exact pair_imp (D := fun x y => ∀ a, ownA x a → ownA y a → False) (fun r1 r2 d a o1 o2 => d a (wk_own r1 o1) (wk_own r2 o2)) h g.inj
/-! what is lent comes back: the kinds stay -/
def SK (s s' : Sl) : Prop := s = s' ∨ (∃ t t', s = .own t ∧ s' = .own t') ∨ ∃ t t', s = .io t ∧ s' = .io t'
def SKL (l m : List Sl) : Prop := m.length = l.length ∧ ∀ (i : Nat) (x : Sl), l[i]? = some x → ∃ x', m[i]? = some x' ∧ SK x x'
theorem skl_set {m : List Sl} {j : Nat} {s s' : Sl} (h : l[j]? = some s) (k : SK s s') (q : SKL (l.set j .no) m) : SKL l (m.set j s') := by
  have hj := (List.getElem?_eq_some_iff.mp h).1
  obtain ⟨q1, q2⟩ := q
  rw [List.length_set] at q1
  refine ⟨by rw [List.length_set]; exact q1, fun i x hx => ?_⟩
  by_cases e : j = i
  · subst e
    rw [h] at hx; cases hx
    exact ⟨s', List.getElem?_set_self (by omega), k⟩
  · obtain ⟨x', h1, h2⟩ := q2 i x (by rw [List.getElem?_set_ne e]; exact hx)
    exact ⟨x', by rw [List.getElem?_set_ne e]; exact h1, h2⟩
theorem lend_back : ∀ {ks ss os l l' : List Sl}, lend l ks = some (ss, l') → okOut ss os = true → SKL l (back l' ks ss os)
  | [], ss, os, l, l', h, _ => by cases h; unfold back; exact ⟨rfl, fun i x hx => ⟨x, hx, .inl rfl⟩⟩
  | .val t :: ks, ss, os, l, l', h, ho => by
    obtain ⟨⟨s1, l1⟩, q1, q2⟩ := Option.map_eq_some_iff.mp h
    cases q2
    cases os with
    | nil => cases ho
    | cons o os =>
      cases o with
      | no => exact lend_back (ks := ks) (ss := s1) (os := os) q1 ho
      | _ => cases ho
  | .ali j :: ks, ss, os, l, l', h, ho => by
    unfold lend at h
    split at h
    · obtain ⟨⟨s1, l1⟩, q1, q2⟩ := Option.map_eq_some_iff.mp h
      cases q2
      cases os with
      | nil => cases ho
      | cons o os =>
        cases o with
        | no => exact lend_back (ks := ks) (ss := s1) (os := os) q1 ho
        | _ => cases ho
    · obtain ⟨⟨s1, l1⟩, q1, q2⟩ := Option.map_eq_some_iff.mp h
      cases q2
      cases os with
      | nil => cases ho
      | cons o os =>
        cases o with
        | io u => exact skl_set ‹_› (.inr (.inl ⟨_, _, rfl, rfl⟩)) (lend_back (ks := ks) (ss := s1) (os := os) q1 ho)
        | _ => cases ho
    · obtain ⟨⟨s1, l1⟩, q1, q2⟩ := Option.map_eq_some_iff.mp h
      cases q2
      cases os with
      | nil => cases ho
      | cons o os =>
        cases o with
        | io u => exact skl_set ‹_› (.inr (.inr ⟨_, _, rfl, rfl⟩)) (lend_back (ks := ks) (ss := s1) (os := os) q1 ho)
        | _ => cases ho
    · cases h
  | .no :: ks, ss, os, l, l', h, _ => by cases h
  | .own t :: ks, ss, os, l, l', h, _ => by cases h
  | .io t :: ks, ss, os, l, l', h, _ => by cases h
/-- a local is lent: its slot stands by itself -/
theorem Good.out {A B : List Pr2} {j : Nat} {w : Option V} {s : Sl} (g : Good E R H (A ++ (σ.zip l ++ B))) (hw : σ[j]? = some w) (hs : l[j]? = some s) : Good E R H ((w, s) :: (A ++ (σ.zip (l.set j .no) ++ B))) := by
  have p1 : (A ++ (σ.zip l ++ B)).Perm ((w, s) :: (A ++ ((σ.eraseIdx j).zip (l.eraseIdx j) ++ B))) := (List.Perm.append_left A ((zip_set j hw hs).append_right B)).trans List.perm_middle
  have hj := (List.getElem?_eq_some_iff.mp hs).1
  have p2 := zip_set (xs := σ) (ys := l.set j .no) (x := w) (y := Sl.no) j hw (List.getElem?_set_self hj)
  rw [erase_set] at p2
  have g2 := (g.perm p1).more (x := (w, Sl.no)) rfl fun _ q => nomatch q
  refine g2.perm ?_
  have p3 : (A ++ (σ.zip (l.set j .no) ++ B)).Perm ((w, .no) :: (A ++ ((σ.eraseIdx j).zip (l.eraseIdx j) ++ B))) := (List.Perm.append_left A (p2.append_right B)).trans List.perm_middle
  exact (List.Perm.swap ..).trans (p3.symm.cons _)
theorem Good.inn {A B : List Pr2} {j : Nat} {w : Option V} {s : Sl} (hj : j < l.length) (hw : σ[j]? = some w) (g : Good E R H ((w, s) :: (A ++ (σ.zip l ++ B)))) : Good E R H (A ++ (σ.zip (l.set j s) ++ B)) := by
  have hl : l[j]? = some l[j] := List.getElem?_eq_getElem hj
  have p1 : (A ++ (σ.zip l ++ B)).Perm ((w, l[j]) :: (A ++ ((σ.eraseIdx j).zip (l.eraseIdx j) ++ B))) := (List.Perm.append_left A ((zip_set j hw hl).append_right B)).trans List.perm_middle
  have g2 := ((g.perm (p1.cons _)).perm (.swap ..)).tail
  have p2 := zip_set (xs := σ) (ys := l.set j s) (x := w) (y := s) j hw (List.getElem?_set_self hj)
  rw [erase_set] at p2
  have p3 : (A ++ (σ.zip (l.set j s) ++ B)).Perm ((w, s) :: (A ++ ((σ.eraseIdx j).zip (l.eraseIdx j) ++ B))) := (List.Perm.append_left A (p2.append_right B)).trans List.perm_middle
  exact g2.perm p3.symm
/-- what an argument is -/
def ArgIs (E : Ev) (Mc : Addr → Prop) (H : Hp) (σ : List (Option V)) (v : V) : Sl → Prop
  | .val t => Rep E Mc H v t
  | .ali j => σ[j]? = some (some v)
  | _ => False
theorem lend_good {Mc : Addr → Prop} : ∀ {ks ss l l' : List Sl} {vs : List V} {A B : List Pr2}, (∀ a, Mx R (A ++ (σ.zip l ++ B)) a → Mc a) → Good E R H (A ++ (σ.zip l ++ B)) → Paired (ArgIs E Mc H σ) vs ks → lend l ks = some (ss, l') → vs.length = ss.length ∧ Good E R H ((vs.map some).zip ss ++ (A ++ (σ.zip l' ++ B)))
  | [], ss, l, l', _, A, B, hm, g, .nil, h => by cases h; exact ⟨rfl, g⟩
  | .val t :: ks, ss, l, l', v :: vs, A, B, hm, g, .cons hv hr, h => by
    obtain ⟨⟨s1, l1⟩, q1, q2⟩ := Option.map_eq_some_iff.mp h
    cases q2
    obtain ⟨h1, h2⟩ := lend_good hm g hr q1
    refine ⟨congrArg (· + 1) h1, h2.cval ((show Rep E Mc H v t from hv).an fun a z => ?_)⟩
    exact hm a (lend_mx hm g hr q1 a z)
  | .ali j :: ks, ss, l, l', v :: vs, A, B, hm, g, .cons hv hr, h => by
    unfold lend at h
    have hv' : σ[j]? = some (some v) := hv
    split at h
    · rename_i t ht
      obtain ⟨⟨s1, l1⟩, q1, q2⟩ := Option.map_eq_some_iff.mp h
      cases q2
      obtain ⟨h1, h2⟩ := lend_good hm g hr q1
      obtain ⟨v', e1, e2⟩ := g.val (some v, .val t) (List.mem_append_right _ (List.mem_append_left _ (List.mem_iff_getElem?.mpr ⟨j, List.getElem?_zip_eq_some.mpr ⟨hv', ht⟩⟩))) t rfl
      cases e1
      refine ⟨congrArg (· + 1) h1, h2.cval (e2.an fun a z => ?_)⟩
      exact lend_mx2 hr q1 a z
    · rename_i t ht
      obtain ⟨⟨s1, l1⟩, q1, q2⟩ := Option.map_eq_some_iff.mp h
      cases q2
      have g2 := g.out hv' ht
      obtain ⟨h1, h2⟩ := lend_good (A := (some v, .own t) :: A) (B := B) (fun a z => hm a (out_mx hv' ht a z)) g2 hr q1
      refine ⟨congrArg (· + 1) h1, h2.perm ?_⟩
      exact List.perm_middle
    · rename_i t ht
      obtain ⟨⟨s1, l1⟩, q1, q2⟩ := Option.map_eq_some_iff.mp h
      cases q2
      have g2 := g.out hv' ht
      obtain ⟨h1, h2⟩ := lend_good (A := (some v, .io t) :: A) (B := B) (fun a z => hm a (out_mx hv' ht a z)) g2 hr q1
      refine ⟨congrArg (· + 1) h1, h2.perm ?_⟩
      exact List.perm_middle
    · cases h
where
  out_mx {A B : List Pr2} {l : List Sl} {j : Nat} {v : V} {s : Sl} (hw : σ[j]? = some (some v)) (hs : l[j]? = some s) (a : Addr) (z : Mx R (((some v, s) :: A) ++ (σ.zip (l.set j .no) ++ B)) a) : Mx R (A ++ (σ.zip l ++ B)) a := by
    have hj := (List.getElem?_eq_some_iff.mp hs).1
    have p1 : (A ++ (σ.zip l ++ B)).Perm ((some v, s) :: (A ++ ((σ.eraseIdx j).zip (l.eraseIdx j) ++ B))) := (List.Perm.append_left A ((zip_set j hw hs).append_right B)).trans List.perm_middle
    have p2 := zip_set (xs := σ) (ys := l.set j .no) (x := some v) (y := Sl.no) j hw (List.getElem?_set_self hj)
    rw [erase_set] at p2
    have p3 : ((some v, s) :: (A ++ (σ.zip (l.set j .no) ++ B))).Perm ((some v, .no) :: (some v, s) :: (A ++ ((σ.eraseIdx j).zip (l.eraseIdx j) ++ B))) := (((List.Perm.append_left A (p2.append_right B)).trans List.perm_middle).cons _).trans (.swap ..)
    have z2 := (mx_perm p3 a).mp z
    have z3 := (mx_un (x := (some v, Sl.no)) rfl a).mp z2
    exact (mx_perm p1 a).mpr z3
  lend_mx2 : ∀ {ks ss l l' : List Sl} {vs : List V} {A B : List Pr2} {Mc : Addr → Prop}, Paired (ArgIs E Mc H σ) vs ks → lend l ks = some (ss, l') → ∀ a, Mx R ((vs.map some).zip ss ++ (A ++ (σ.zip l' ++ B))) a → Mx R (A ++ (σ.zip l ++ B)) a
    | [], ss, l, l', _, A, B, Mc, .nil, h, a, z => by cases h; exact z
    | .val t :: ks, ss, l, l', v :: vs, A, B, Mc, .cons hv hr, h, a, z => by
      obtain ⟨⟨s1, l1⟩, q1, q2⟩ := Option.map_eq_some_iff.mp h
      cases q2
      exact lend_mx2 hr q1 a ((mx_un (x := (some v, Sl.val t)) rfl a).mp z)
    | .ali j :: ks, ss, l, l', v :: vs, A, B, Mc, .cons hv hr, h, a, z => by
      unfold lend at h
      have hv' : σ[j]? = some (some v) := hv
      split at h
      · obtain ⟨⟨s1, l1⟩, q1, q2⟩ := Option.map_eq_some_iff.mp h
        cases q2
        exact lend_mx2 hr q1 a ((mx_un (x := (some v, Sl.val _)) rfl a).mp z)
      · rename_i t ht
        obtain ⟨⟨s1, l1⟩, q1, q2⟩ := Option.map_eq_some_iff.mp h
        cases q2
        refine out_mx hv' ht a ?_
        exact lend_mx2 (A := (some v, .own t) :: A) hr q1 a ((mx_perm List.perm_middle a).mpr z)
      · rename_i t ht
        obtain ⟨⟨s1, l1⟩, q1, q2⟩ := Option.map_eq_some_iff.mp h
        cases q2
        refine out_mx hv' ht a ?_
        exact lend_mx2 (A := (some v, .io t) :: A) hr q1 a ((mx_perm List.perm_middle a).mpr z)
      · cases h
  lend_mx {ks ss l l' : List Sl} {vs : List V} {A B : List Pr2} {Mc : Addr → Prop} (hm : ∀ a, Mx R (A ++ (σ.zip l ++ B)) a → Mc a) (g : Good E R H (A ++ (σ.zip l ++ B))) (hr : Paired (ArgIs E Mc H σ) vs ks) (h : lend l ks = some (ss, l')) (a : Addr) (z : Mx R ((vs.map some).zip ss ++ (A ++ (σ.zip l' ++ B))) a) : Mx R (A ++ (σ.zip l ++ B)) a := lend_mx2 hr h a z
theorem lend_len : ∀ {ks ss l l' : List Sl}, lend l ks = some (ss, l') → l'.length = l.length ∧ ss.length = ks.length
  | [], ss, l, l', h => by cases h; exact ⟨rfl, rfl⟩
  | .val t :: ks, ss, l, l', h => by
    obtain ⟨⟨s1, l1⟩, q1, q2⟩ := Option.map_eq_some_iff.mp h
    cases q2
    exact ⟨(lend_len q1).1, congrArg (· + 1) (lend_len q1).2⟩
  | .ali j :: ks, ss, l, l', h => by
    unfold lend at h
    split at h
    · obtain ⟨⟨s1, l1⟩, q1, q2⟩ := Option.map_eq_some_iff.mp h
      cases q2
      exact ⟨(lend_len q1).1, congrArg (· + 1) (lend_len q1).2⟩
    · obtain ⟨⟨s1, l1⟩, q1, q2⟩ := Option.map_eq_some_iff.mp h
      cases q2
      exact ⟨(lend_len q1).1.trans List.length_set, congrArg (· + 1) (lend_len q1).2⟩
    · obtain ⟨⟨s1, l1⟩, q1, q2⟩ := Option.map_eq_some_iff.mp h
      cases q2
      exact ⟨(lend_len q1).1.trans List.length_set, congrArg (· + 1) (lend_len q1).2⟩
    · cases h
  | .no :: ks, ss, l, l', h => by cases h
  | .own t :: ks, ss, l, l', h => by cases h
  | .io t :: ks, ss, l, l', h => by cases h
/-- the pairs behind the call: what was lent, changed -/
def nw (vs : List V) (ss os : List Sl) : List Pr2 := match vs, ss, os with
  | v :: vs, s :: ss, o :: os => (some v, bk s o) :: nw vs ss os
  | _, _, _ => []
theorem back_len : ∀ {ks ss os m : List Sl}, (back m ks ss os).length = m.length
  | [], ss, os, m => by unfold back; rfl
  | k :: ks, [], os, m => by cases k <;> rfl
  | k :: ks, s :: ss, [], m => by cases k <;> cases s <;> rfl
  | k :: ks, s :: ss, o :: os, m => by
    cases k <;> cases s <;> first | exact back_len (ks := ks) (ss := ss) (os := os) | (show (List.set _ _ _).length = _; rw [List.length_set]; exact back_len (ks := ks) (ss := ss) (os := os))
theorem back_good {Mc : Addr → Prop} {H0 : Hp} {σ : List (Option V)} : ∀ {ks ss os l l' : List Sl} {vs : List V} {A B : List Pr2}, σ.length = l.length → Paired (ArgIs E Mc H0 σ) vs ks → lend l ks = some (ss, l') → okOut ss os = true → Good E R H (nw vs ss os ++ (A ++ (σ.zip l' ++ B))) → Good E R H (A ++ (σ.zip (back l' ks ss os) ++ B))
  | [], ss, os, l, l', _, A, B, hl, .nil, h, ho, g => by cases h; unfold back; exact g
  | .val t :: ks, ss, os, l, l', v :: vs, A, B, hl, .cons hv hr, h, ho, g => by
    obtain ⟨⟨s1, l1⟩, q1, q2⟩ := Option.map_eq_some_iff.mp h
    cases q2
    cases os with
    | nil => cases ho
    | cons o os =>
      cases o with
      | no => exact back_good (ss := s1) (os := os) (vs := vs) hl hr q1 ho (show Good E R H ((some v, Sl.no) :: (nw vs s1 os ++ (A ++ (σ.zip l1 ++ B)))) from g).tail
      | _ => cases ho
  | .ali j :: ks, ss, os, l, l', v :: vs, A, B, hl, .cons hv hr, h, ho, g => by
    have hv' : σ[j]? = some (some v) := hv
    have hj : j < σ.length := (List.getElem?_eq_some_iff.mp hv').1
    have h0 := h
    unfold lend at h
    split at h
    · obtain ⟨⟨s1, l1⟩, q1, q2⟩ := Option.map_eq_some_iff.mp h
      cases q2
      cases os with
      | nil => cases ho
      | cons o os =>
        cases o with
        | no => exact back_good (ss := s1) (os := os) (vs := vs) hl hr q1 ho (show Good E R H ((some v, Sl.no) :: (nw vs s1 os ++ (A ++ (σ.zip l1 ++ B)))) from g).tail
        | _ => cases ho
    · obtain ⟨⟨s1, l1⟩, q1, q2⟩ := Option.map_eq_some_iff.mp h
      cases q2
      cases os with
      | nil => cases ho
      | cons o os =>
        cases o with
        | io u =>
          have hb : (back l1 ks s1 os).length = l.length := back_len.trans (lend_len h0).1
          refine Good.inn (l := back l1 ks s1 os) (by rw [hb, ← hl]; exact hj) hv' ?_
          exact back_good (A := (some v, .own u) :: A) (B := B) (by rw [List.length_set]; exact hl) hr q1 ho (g.perm List.perm_middle.symm)
        | _ => cases ho
    · obtain ⟨⟨s1, l1⟩, q1, q2⟩ := Option.map_eq_some_iff.mp h
      cases q2
      cases os with
      | nil => cases ho
      | cons o os =>
        cases o with
        | io u =>
          have hb : (back l1 ks s1 os).length = l.length := back_len.trans (lend_len h0).1
          refine Good.inn (l := back l1 ks s1 os) (by rw [hb, ← hl]; exact hj) hv' ?_
          exact back_good (A := (some v, .io u) :: A) (B := B) (by rw [List.length_set]; exact hl) hr q1 ho (g.perm List.perm_middle.symm)
        | _ => cases ho
    · cases h
end
end Fn
set_option Elab.async false
set_option linter.all false
set_option maxRecDepth 100000
set_option maxHeartbeats 4000000
namespace Fn
open PySem PySem.Spec PyProof.Rows L2 Rw
/-- behind a call -/
structure Post (E : Ev) (FB M0 : Addr → Prop) (H H' : Hp) (vs : List V) (outs : List Sl) (v : V) (r : Sl) : Prop where
  good : Good E ⟨FB, M0, H, []⟩ H' ((some v, r) :: (vs.map some).zip outs)
def spF (E : Ev) (n : Nat) (F : FT) : Sp := fun vs H Q _ => ∃ FB M0 ss outs r, vs.length = n ∧ ss.length = n ∧ (ss.map toArg).all isArg = true ∧ Good E ⟨FB, M0, H, []⟩ H ((vs.map some).zip (ss.map toArg)) ∧ F (ss.map toArg) = some (outs, r) ∧ (okOut ss outs && isRes r) = true ∧ ∀ v H', Post E FB M0 H H' vs outs v r → Q v H'
abbrev Tr := V × Sl × Sl
def ok3 (x : Tr) : Prop := (∃ t, x.2.1 = .val t ∧ x.2.2 = .no) ∨ (∃ t t', x.2.1 = .own t ∧ x.2.2 = .io t') ∨ ∃ t t', x.2.1 = .io t ∧ x.2.2 = .io t'
theorem tri : ∀ {vs : List V} {ss os : List Sl}, vs.length = ss.length → okOut ss os = true → ∃ TL : List Tr, vs = TL.map (·.1) ∧ ss = TL.map (·.2.1) ∧ os = TL.map (·.2.2) ∧ (∀ x ∈ TL, ok3 x) ∧ nw vs ss os = TL.map fun x => (some x.1, bk x.2.1 x.2.2)
  | [], [], [], _, _ => ⟨[], rfl, rfl, rfl, ⟨fun x h => by simp at h, rfl⟩⟩
  | [], [], _ :: _, _, h => by cases h
  | [], _ :: _, _, h, _ => by cases h
  | _ :: _, [], _, h, _ => by cases h
  | v :: vs, s :: ss, [], _, h => by cases s <;> cases h
  | v :: vs, s :: ss, o :: os, hl, h => by
    have key : okOut ss os = true ∧ ok3 (v, s, o) := by
      cases s <;> cases o <;> first | exact ⟨h, .inl ⟨_, rfl, rfl⟩⟩ | exact ⟨h, .inr (.inl ⟨_, _, rfl, rfl⟩)⟩ | exact ⟨h, .inr (.inr ⟨_, _, rfl, rfl⟩)⟩ | cases h
    obtain ⟨TL, e1, e2, e3, e4, e5⟩ := tri (vs := vs) (Nat.succ.inj hl) key.1
    refine ⟨(v, s, o) :: TL, by rw [e1]; rfl, by rw [e2]; rfl, by rw [e3]; rfl, fun x hx => ?_, ?_⟩
    · rcases List.mem_cons.mp hx with rfl | hx
      · exact key.2
      · exact e4 x hx
    · show (some v, bk s o) :: nw vs ss os = _
      rw [e5]; rfl
theorem zip_map2 {α β γ : Type} {f : α → β} {g : α → γ} : ∀ {l : List α}, (l.map f).zip (l.map g) = l.map fun x => (f x, g x)
  | [] => rfl
  | x :: l => congrArg _ (zip_map2 (l := l))
section
variable {E : Ev} {R : Rc} {H H' : Hp}
theorem call_good {vs : List V} {ss : List Sl} {O : List Pr2} (hv : vs.length = ss.length) (ho' : (ss.map toArg).all isArg = true) (g : Good E R H ((vs.map some).zip ss ++ O)) :
    ∃ FB M0, Good E ⟨FB, M0, H, []⟩ H ((vs.map some).zip (ss.map toArg)) ∧ ∀ {os : List Sl} {v : V} {r : Sl} {H' : Hp}, okOut ss os = true → isRes r = true → Post E FB M0 H H' vs os v r → Good E R H' (nw vs ss os ++ ((some v, r) :: O)) := by
  let Mc := Mx R ((vs.map some).zip ss ++ O)
  let M0 : Addr → Prop := fun a => Mw ((vs.map some).zip ss) a
  let FB : Addr → Prop := fun a => Mc a ∧ ¬ M0 a
  have arg : ∀ {s : Sl}, isArg (toArg s) = true → (∃ t, s = .val t) ∨ (∃ t, s = .own t) ∨ ∃ t, s = .io t := fun {s} h => by
    cases s with
    | val t => exact .inl ⟨t, rfl⟩
    | own t => exact .inr (.inl ⟨t, rfl⟩)
    | io t => exact .inr (.inr ⟨t, rfl⟩)
    | _ => cases h
  have memA : ∀ {x : Pr2}, x ∈ (vs.map some).zip (ss.map toArg) → ∃ s, (x.1, s) ∈ (vs.map some).zip ss ∧ x.2 = toArg s ∧ isArg x.2 = true := fun {x} hx => by
    rw [List.zip_map_right] at hx
    obtain ⟨⟨w, s⟩, h1, rfl⟩ := List.mem_map.mp hx
    exact ⟨s, h1, rfl, List.all_eq_true.mp ho' _ (List.mem_map_of_mem (List.of_mem_zip h1).2)⟩
  have ownArg : ∀ {s : Sl} {t : T}, (toArg s).own? = some t → s.own? = some t := fun {s t} h => by cases s <;> first | exact h | cases h
  have argOwn : ∀ {s : Sl} {t : T}, s.own? = some t → toArg s = .io t := fun {s t} h => by cases s <;> first | (cases h; rfl) | cases h
  have mwc : ∀ a, Mw ((vs.map some).zip (ss.map toArg)) a ↔ M0 a := fun a => by
    constructor
    · rintro ⟨x, hx, ⟨t, e⟩, ea⟩
      obtain ⟨s, h1, h2, _⟩ := memA hx
      rw [h2] at e
      exact ⟨_, h1, ⟨t, ownArg e⟩, ea⟩
    · rintro ⟨⟨w, s⟩, hx, ⟨t, e⟩, ea⟩
      refine ⟨(w, toArg s), ?_, ⟨t, by rw [argOwn e]; rfl⟩, ea⟩
      rw [List.zip_map_right]
      exact List.mem_map.mpr ⟨_, hx, rfl⟩
  have m0c : ∀ a, M0 a → Mc a := fun a ⟨x, hx, q⟩ => .inr ⟨x, List.mem_append_left _ hx, q⟩
  have mxc : ∀ a, Mx ⟨FB, M0, H, []⟩ ((vs.map some).zip (ss.map toArg)) a ↔ Mc a := fun a => by
    constructor
    · rintro (h | h)
      · exact h.1
      · exact m0c a ((mwc a).mp h)
    · intro h
      by_cases q : M0 a
      · exact .inr ((mwc a).mpr q)
      · exact .inl ⟨h, q⟩
  refine ⟨FB, M0, ⟨fun x hx t e => ?_, fun x hx t e => ?_, fun x hx t a e _ => ?_, fun x hx t a e ea => ?_, ?_, .rf, fun a h => g.trkN (m0c a h), fun a h => g.trkN h.1, g.tb⟩, fun {os v r H'} ho hr ⟨g'⟩ => ?_⟩
  · obtain ⟨s, h1, h2, h3⟩ := memA hx
    have : s = .val t := by
      rw [e] at h2
      cases s with
      | val u => exact h2.symm
      | own u => cases h2
      | _ => cases h2
    subst this
    obtain ⟨v, q1, q2⟩ := g.val _ (List.mem_append_left _ h1) t rfl
    exact ⟨v, q1, q2.an fun a z => (mxc a).mp z⟩
  · obtain ⟨s, h1, h2, h3⟩ := memA hx
    rw [h2] at e
    obtain ⟨a, q1, q2, q3⟩ := g.own _ (List.mem_append_left _ h1) t (ownArg e)
    exact ⟨a, q1, fun z => z.2 ⟨_, h1, ⟨t, ownArg e⟩, q1⟩, q3.mv (fun b o eb m => ⟨eb, fun z => m ((mxc b).mp z)⟩) rfl⟩
  · obtain ⟨s, h1, h2, h3⟩ := memA hx
    rw [e] at h3; cases h3
  · obtain ⟨s, h1, h2, h3⟩ := memA hx
    rw [e] at h2
    exact ⟨_, h1, ⟨t, ownArg (by rw [← h2]; rfl)⟩, ea⟩
  · rw [List.zip_map_right]
    refine List.pairwise_map.mpr (((List.pairwise_append.mp g.inj).1).imp fun {x y} d a o1 o2 => d a ?_ ?_)
    · obtain ⟨⟨t, e⟩, ea⟩ := o1; exact ⟨⟨t, ownArg e⟩, ea⟩
    · obtain ⟨⟨t, e⟩, ea⟩ := o2; exact ⟨⟨t, ownArg e⟩, ea⟩
  · obtain ⟨TL, rfl, rfl, rfl, h3, h4⟩ := tri hv ho
    rw [h4]
    have eA : ((TL.map (·.1)).map some).zip (TL.map (·.2.1)) = TL.map fun x => (some x.1, x.2.1) := by rw [List.map_map]; exact zip_map2
    have eO : ((TL.map (·.1)).map some).zip (TL.map (·.2.2)) = TL.map fun x => (some x.1, x.2.2) := by rw [List.map_map]; exact zip_map2
    rw [eO] at g'
    have gA := g
    rw [eA] at gA
    have hM0 : ∀ a, M0 a ↔ Mw (TL.map fun x => (some x.1, x.2.1)) a := fun a => by show Mw _ a ↔ _; rw [eA]
    have hMc : ∀ a, Mc a ↔ Mx R ((TL.map fun x => (some x.1, x.2.1)) ++ O) a := fun a => by show Mx R _ a ↔ _; rw [eA]
    have bko : ∀ x ∈ TL, ∀ t, (bk x.2.1 x.2.2).own? = some t → x.2.2 = .io t ∧ ((∃ t0, x.2.1 = .own t0 ∧ bk x.2.1 x.2.2 = .own t) ∨ ∃ t0, x.2.1 = .io t0 ∧ bk x.2.1 x.2.2 = .io t) := fun x hx t e => by
      rcases h3 x hx with ⟨t1, e1, e2⟩ | ⟨t1, t2, e1, e2⟩ | ⟨t1, t2, e1, e2⟩
      · rw [e1, e2] at e; cases e
      · rw [e1, e2] at e ⊢; cases e; exact ⟨rfl, .inl ⟨_, rfl, rfl⟩⟩
      · rw [e1, e2] at e ⊢; cases e; exact ⟨rfl, .inr ⟨_, rfl, rfl⟩⟩
    have memN : ∀ {y : Pr2}, y ∈ (TL.map fun x => (some x.1, bk x.2.1 x.2.2)) → ∃ x ∈ TL, y = (some x.1, bk x.2.1 x.2.2) ∧ (some x.1, x.2.1) ∈ (TL.map fun x => ((some x.1, x.2.1) : Pr2)) ∧ (some x.1, x.2.2) ∈ (TL.map fun x => ((some x.1, x.2.2) : Pr2)) := fun {y} hy => by
      obtain ⟨x, hx, rfl⟩ := List.mem_map.mp hy
      exact ⟨x, hx, rfl, List.mem_map.mpr ⟨x, hx, rfl⟩, List.mem_map.mpr ⟨x, hx, rfl⟩⟩
    have ownN : ∀ x ∈ TL, ∀ a, ownA (some x.1, bk x.2.1 x.2.2) a → ownA (some x.1, x.2.1) a := fun x hx a ⟨⟨t, e⟩, ea⟩ => by
      obtain ⟨_, ⟨t0, h, _⟩ | ⟨t0, h, _⟩⟩ := bko x hx t e
      · exact ⟨⟨t0, by rw [h]; rfl⟩, ea⟩
      · exact ⟨⟨t0, by rw [h]; rfl⟩, ea⟩
    have mwN : ∀ a, Mw (TL.map fun x => (some x.1, bk x.2.1 x.2.2)) a → M0 a := fun a ⟨y, hy, o⟩ => by
      obtain ⟨x, hx, rfl, h5, _⟩ := memN hy
      exact (hM0 a).mpr ⟨_, h5, ownN x hx a o⟩
    have kp : KpT M0 H H' := g'.kp
    have resNo : ∀ a, ownA (some v, r) a → ¬ HasN H a := fun a ⟨⟨t, e⟩, ea⟩ => by
      cases r with
      | own u => exact g'.fr _ List.mem_cons_self u a rfl ea
      | val u => cases e
      | _ => cases hr
    have mxN : ∀ a, Mx R ((TL.map fun x => (some x.1, bk x.2.1 x.2.2)) ++ ((some v, r) :: O)) a → Mc a ∨ ownA (some v, r) a := fun a h => by
      rcases h with h | ⟨y, hy, o⟩
      · exact .inl (.inl h)
      · rcases List.mem_append.mp hy with hy | hy
        · exact .inl (m0c a (mwN a ⟨y, hy, o⟩))
        · rcases List.mem_cons.mp hy with rfl | hy
          · exact .inr o
          · exact .inl (.inr ⟨y, List.mem_append_right _ hy, o⟩)
    have trk : ∀ a, Mc a → H a ≠ none := fun a h => g.trk h
    have mvH : ∀ b o, H b = some o → NT o → ¬ Mc b → H' b = some o ∧ ¬ Mx R ((TL.map fun x => (some x.1, bk x.2.1 x.2.2)) ++ ((some v, r) :: O)) b := fun b o eb nb mb => by
      refine ⟨kp b o eb nb fun z => mb (m0c b z), fun z => ?_⟩
      rcases mxN b z with z | z
      · exact mb z
      · exact resNo b z ⟨o, eb, nb⟩
    have mvC : ∀ b o, H' b = some o → ¬ Mx ⟨FB, M0, H, []⟩ ((some v, r) :: TL.map fun x => (some x.1, x.2.2)) b → H' b = some o ∧ ¬ Mx R ((TL.map fun x => (some x.1, bk x.2.1 x.2.2)) ++ ((some v, r) :: O)) b := fun b o eb mb => by
      refine ⟨eb, fun z => mb ?_⟩
      rcases mxN b z with z | z
      · by_cases q : M0 b
        · obtain ⟨y, hy, ⟨t, e⟩, ea⟩ := (hM0 b).mp q
          obtain ⟨x, hx, rfl⟩ := List.mem_map.mp hy
          refine (mx_cons b).mpr (.inr (.inr ⟨(some x.1, x.2.2), List.mem_map.mpr ⟨x, hx, rfl⟩, ?_, ea⟩))
          rcases h3 x hx with ⟨t1, e1, e2⟩ | ⟨t1, t2, e1, e2⟩ | ⟨t1, t2, e1, e2⟩
          · dsimp only at e; rw [e1] at e; cases e
          · exact ⟨t2, by dsimp only; rw [e2]; rfl⟩
          · exact ⟨t2, by dsimp only; rw [e2]; rfl⟩
        · exact (mx_cons b).mpr (.inr (.inl ⟨z, q⟩))
      · exact (mx_cons b).mpr (.inl z)
    have pw := List.pairwise_append.mp gA.inj
    refine ⟨fun y hy t e => ?_, fun y hy t e => ?_, fun y hy t a e ea => ?_, fun y hy t a e ea => ?_, ?_, fun a o e n m => ?_, fun a h => ?_, fun a h => ?_, g'.tb⟩
    · rcases List.mem_append.mp hy with hy | hy
      · obtain ⟨x, hx, rfl, _, _⟩ := memN hy
        exfalso
        rcases h3 x hx with ⟨t1, e1, e2⟩ | ⟨t1, t2, e1, e2⟩ | ⟨t1, t2, e1, e2⟩ <;> (dsimp only at e; rw [e1, e2] at e; cases e)
      · rcases List.mem_cons.mp hy with rfl | hy
        · obtain ⟨w, q1, q2⟩ := g'.val _ List.mem_cons_self t e
          exact ⟨w, q1, Rep.mv mvC _ _ q2⟩
        · obtain ⟨w, q1, q2⟩ := g.val _ (List.mem_append_right _ hy) t e
          exact ⟨w, q1, Rep.mvN mvH _ _ q2⟩
    · rcases List.mem_append.mp hy with hy | hy
      · obtain ⟨x, hx, rfl, h5, h6⟩ := memN hy
        obtain ⟨e2, h7⟩ := bko x hx t e
        obtain ⟨a, q1, q2, q3⟩ := g'.own (some x.1, x.2.2) (List.mem_cons_of_mem _ h6) t (by dsimp only; rw [e2]; rfl)
        refine ⟨a, q1, ?_, q3.mv mvC rfl⟩
        have : ∃ t0, x.2.1.own? = some t0 := by
          rcases h7 with ⟨t0, h, _⟩ | ⟨t0, h, _⟩
          · exact ⟨t0, by rw [h]; rfl⟩
          · exact ⟨t0, by rw [h]; rfl⟩
        obtain ⟨t0, ht0⟩ := this
        obtain ⟨a', q4, q5, _⟩ := gA.own _ (List.mem_append_left _ h5) t0 ht0
        dsimp only at q1 q4
        rw [q1] at q4; cases q4
        exact q5
      · rcases List.mem_cons.mp hy with rfl | hy
        · obtain ⟨a, q1, q2, q3⟩ := g'.own _ List.mem_cons_self t e
          exact ⟨a, q1, fun z => resNo a ⟨⟨t, e⟩, q1⟩ (g.ft a z).n, q3.mv mvC rfl⟩
        · obtain ⟨a, q1, q2, q3⟩ := g.own _ (List.mem_append_right _ hy) t e
          refine ⟨a, q1, q2, q3.mvN mvH ?_⟩
          obtain ⟨o, q⟩ := q3.tr
          rw [q]
          refine kp a o q (q3.nt q) fun z => ?_
          obtain ⟨x, hx, o1⟩ := (hM0 a).mp z
          exact pw.2.2 x hx y hy a o1 ⟨⟨t, e⟩, q1⟩
    · rcases List.mem_append.mp hy with hy | hy
      · obtain ⟨x, hx, rfl, h5, h6⟩ := memN hy
        obtain ⟨e2, ⟨t0, h, _⟩ | ⟨t0, h, h8⟩⟩ := bko x hx t (by dsimp only at e; rw [e]; rfl)
        · exact gA.fr _ (List.mem_append_left _ h5) t0 a h ea
        · dsimp only at e; rw [h8] at e; cases e
      · rcases List.mem_cons.mp hy with rfl | hy
        · exact g.h0 (g'.fr _ List.mem_cons_self t a e ea)
        · exact g.fr _ (List.mem_append_right _ hy) t a e ea
    · rcases List.mem_append.mp hy with hy | hy
      · obtain ⟨x, hx, rfl, h5, h6⟩ := memN hy
        obtain ⟨e2, ⟨t0, h, h8⟩ | ⟨t0, h, _⟩⟩ := bko x hx t (by dsimp only at e; rw [e]; rfl)
        · dsimp only at e; rw [h8] at e; cases e
        · exact gA.m0 _ (List.mem_append_left _ h5) t0 a h ea
      · rcases List.mem_cons.mp hy with rfl | hy
        · dsimp only at e; rw [e] at hr; cases hr
        · exact g.m0 _ (List.mem_append_right _ hy) t a e ea
    · refine List.pairwise_append.mpr ⟨?_, List.pairwise_cons.mpr ⟨fun y hy a o1 o2 => ?_, pw.2.1⟩, fun y hy z hz a o1 o2 => ?_⟩
      · have := List.pairwise_map.mp pw.1
        refine List.pairwise_map.mpr (this.imp_of_mem fun {x y} hx hy d a o1 o2 => d a (ownN x hx a o1) (ownN y hy a o2))
      · exact resNo a o1 (g.trkN (a := a) (.inr ⟨y, List.mem_append_right _ hy, o2⟩)).n
      · obtain ⟨x, hx, rfl, h5, h6⟩ := memN hy
        rcases List.mem_cons.mp hz with rfl | hz
        · exact resNo a o2 (gA.trkN (.inr ⟨_, List.mem_append_left _ h5, ownN x hx a o1⟩)).n
        · exact pw.2.2 _ h5 z hz a (ownN x hx a o1) o2
    · refine kp a o (g.kp a o e n m) n fun z => ?_
      obtain ⟨y, hy, ⟨t, e1⟩, ea⟩ := (hM0 a).mp z
      cases hs : y.2 with
      | own u => exact gA.fr y (List.mem_append_left _ hy) u a hs ea ⟨o, e, n⟩
      | io u => exact m (gA.m0 y (List.mem_append_left _ hy) u a hs ea)
      | val u => rw [hs] at e1; cases e1
      | no => rw [hs] at e1; cases e1
      | ali j => rw [hs] at e1; cases e1
    all_goals
      by_cases q : M0 a
      · exact g'.mt a q
      · exact kp.hasK (by first | exact g.mt a h | exact g.ft a h) q
end
end Fn
set_option Elab.async false
set_option linter.all false
set_option maxRecDepth 100000
set_option maxHeartbeats 4000000
namespace Fn
open PySem PySem.Spec PyProof.Rows L2 Rw
section
variable {E : Ev} {R : Rc} {σ za zr zs : List (Option V)} {H H' : Hp} {l ka kr ks k : List Sl} {z z' : Z}
theorem lend_arg : ∀ {ks ss l l' : List Sl}, lend l ks = some (ss, l') → (ss.map toArg).all isArg = true ∧ ∀ s ∈ ks, (∃ t, s = .val t) ∨ ∃ j, s = .ali j
  | [], ss, l, l', h => by cases h; exact ⟨rfl, fun s h => by cases h⟩
  | .val t :: ks, ss, l, l', h => by
    obtain ⟨⟨s1, l1⟩, q1, q2⟩ := Option.map_eq_some_iff.mp h
    cases q2
    obtain ⟨h1, h2⟩ := lend_arg q1
    exact ⟨h1, fun s hs => by
      rcases List.mem_cons.mp hs with rfl | hs
      · exact .inl ⟨_, rfl⟩
      · exact h2 s hs⟩
  | .ali j :: ks, ss, l, l', h => by
    unfold lend at h
    split at h
    · obtain ⟨⟨s1, l1⟩, q1, q2⟩ := Option.map_eq_some_iff.mp h
      cases q2
      obtain ⟨h1, h2⟩ := lend_arg q1
      exact ⟨h1, fun s hs => by
        rcases List.mem_cons.mp hs with rfl | hs
        · exact .inr ⟨_, rfl⟩
        · exact h2 s hs⟩
    · obtain ⟨⟨s1, l1⟩, q1, q2⟩ := Option.map_eq_some_iff.mp h
      cases q2
      obtain ⟨h1, h2⟩ := lend_arg q1
      exact ⟨h1, fun s hs => by
        rcases List.mem_cons.mp hs with rfl | hs
        · exact .inr ⟨_, rfl⟩
        · exact h2 s hs⟩
    · obtain ⟨⟨s1, l1⟩, q1, q2⟩ := Option.map_eq_some_iff.mp h
      cases q2
      obtain ⟨h1, h2⟩ := lend_arg q1
      exact ⟨h1, fun s hs => by
        rcases List.mem_cons.mp hs with rfl | hs
        · exact .inr ⟨_, rfl⟩
        · exact h2 s hs⟩
    · cases h
  | .no :: ks, ss, l, l', h => by cases h
  | .own t :: ks, ss, l, l', h => by cases h
  | .io t :: ks, ss, l, l', h => by cases h
theorem skl_live {l m : List Sl} (h : SKL l m) {j : Nat} {s : Sl} (e : l[j]? = some s) (hs : s.live = true) : ∃ s', m[j]? = some s' ∧ s'.live = true := by
  obtain ⟨x', h1, h2⟩ := h.2 j s e
  refine ⟨x', h1, ?_⟩
  rcases h2 with rfl | ⟨t, t', rfl, rfl⟩ | ⟨t, t', rfl, rfl⟩
  · exact hs
  · rfl
  · rfl
theorem call_er {n : Nat} {F : FT} {vs : List V} {Q : VK} {Ex : XK} (er : ER E R σ (za ++ zr) H ⟨l, ka ++ kr⟩) (hz : za.length = ka.length) (hp : Paired (ArgIs E (Mz R σ (za ++ zr) ⟨l, ka ++ kr⟩) H σ) vs ks) (hn : vs.length = n)
    (q : callK ka.length F l (ka ++ kr) ks = some z') (c : ∀ v H', ER E R σ (some v :: zr) H' z' → Q v H') : spF E n F vs H Q Ex := by
  unfold callK at q
  obtain ⟨⟨ss, l'⟩, q1, q2⟩ := Option.bind_eq_some_iff.mp q
  obtain ⟨⟨os, r⟩, q3, q4⟩ := Option.bind_eq_some_iff.mp q2
  obtain ⟨q5, q6⟩ := ite_some' q4
  subst q6
  have q5' := q5
  rw [Bool.and_eq_true] at q5'
  obtain ⟨ho, hr⟩ := q5'
  dsimp only at q1 q3 ho hr ⊢
  have g := er.ok
  have gz : Pz σ (za ++ zr) ⟨l, ka ++ kr⟩ = [] ++ (σ.zip l ++ (za.zip ka ++ zr.zip kr)) := by
    show σ.zip l ++ (za ++ zr).zip (ka ++ kr) = _
    rw [List.zip_append hz]; rfl
  rw [gz] at g
  obtain ⟨h1, h2⟩ := lend_good (Mc := Mz R σ (za ++ zr) ⟨l, ka ++ kr⟩) (fun a z => by rw [← gz] at z; exact z) g hp q1
  obtain ⟨FB, M0, g1, g2⟩ := call_good h1 (lend_arg q1).1 h2
  refine ⟨FB, M0, ss, os, r, hn, ?_, (lend_arg q1).1, g1, q3, q5, fun v H' p => c v H' ?_⟩
  · rw [← hn, h1]
  · have g3 := g2 ho hr p
    have pr : (nw vs ss os ++ (some v, r) :: ([] ++ (σ.zip l' ++ (za.zip ka ++ zr.zip kr)))).Perm ((nw vs ss os ++ ([] ++ (σ.zip l' ++ ((some v, r) :: zr.zip kr)))) ++ za.zip ka) := by
      simp only [List.nil_append, List.append_assoc]
      refine List.Perm.append_left _ ?_
      refine (List.perm_middle (a := (some v, r)) (l₁ := σ.zip l') (l₂ := za.zip ka ++ zr.zip kr)).symm.trans ?_
      refine List.Perm.append_left _ ?_
      show ((some v, r) :: (za.zip ka ++ zr.zip kr)).Perm ((some v, r) :: (zr.zip kr ++ za.zip ka))
      exact List.perm_append_comm.cons _
    have g4 := (g3.perm pr).pre
    have g5 := back_good er.ll hp q1 ho g4
    have sk := lend_back q1 ho
    have hd : (ka ++ kr).drop ka.length = kr := by simp
    rw [hd]
    refine ⟨?_, ?_, g5, fun w j m => ?_, fun s hs => ?_, fun s hs => ?_, fun i t hi => ?_⟩
    · rw [sk.1]; exact er.ll
    · have := er.lk
      simp only [List.length_append, List.length_cons] at this ⊢
      omega
    · rcases List.mem_cons.mp m with m | m
      · cases m; cases hr
      · have m2 : (w, Sl.ali j) ∈ (za ++ zr).zip (ka ++ kr) := by rw [List.zip_append hz]; exact List.mem_append_right _ m
        obtain ⟨e1, s, e2, e3⟩ := er.al _ _ m2
        exact ⟨e1, skl_live sk e2 e3⟩
    · obtain ⟨i, hi⟩ := List.mem_iff_getElem?.mp hs
      have hi2 : i < l.length := by have := (List.getElem?_eq_some_iff.mp hi).1; rwa [sk.1] at this
      obtain ⟨x', e1, e2⟩ := sk.2 i _ (List.getElem?_eq_getElem hi2)
      rw [hi] at e1; cases e1
      rcases e2 with e2 | ⟨t, t', _, rfl⟩ | ⟨t, t', _, rfl⟩
      · rw [← e2]; exact er.nl _ (List.getElem_mem hi2)
      · rfl
      · rfl
    · rcases List.mem_cons.mp hs with rfl | hs
      · cases s <;> first | rfl | cases hr
      · exact er.nk s (List.mem_append_right _ hs)
    · have hi2 : i < l.length := by have := (List.getElem?_eq_some_iff.mp hi).1; rwa [sk.1] at this
      obtain ⟨x', e1, e2⟩ := sk.2 i _ (List.getElem?_eq_getElem hi2)
      rw [hi] at e1; cases e1
      rcases e2 with e2 | ⟨t, t', _, e⟩ | ⟨t, t', e, _⟩
      · exact er.io i t (by rw [← e2]; exact List.getElem?_eq_getElem hi2)
      · cases e
      · exact er.io i _ (by rw [← e]; exact List.getElem?_eq_getElem hi2)
theorem paired_of {α β : Type} {F : α → β → Prop} : ∀ {xs : List α} {ys : List β}, xs.length = ys.length → (∀ (i : Nat) x y, xs[i]? = some x → ys[i]? = some y → F x y) → Paired F xs ys
  | [], [], _, _ => .nil
  | [], _ :: _, h, _ => by cases h
  | _ :: _, [], h, _ => by cases h
  | x :: xs, y :: ys, h, k => .cons (k 0 x y rfl rfl) (paired_of (Nat.succ.inj h) fun i x y hx hy => k (i + 1) x y (by simpa using hx) (by simpa using hy))
/-- written arguments on the stack -/
theorem ER.argIs {vs : List V} (er : ER E R σ (vs.reverse.map some ++ zr) H ⟨l, ka ++ kr⟩) (hk : ka.length = vs.length) (ha : ∀ s ∈ ka, (∃ t, s = .val t) ∨ ∃ j, s = .ali j) : Paired (ArgIs E (Mz R σ (vs.reverse.map some ++ zr) ⟨l, ka ++ kr⟩) H σ) vs ka.reverse := by
  refine paired_of (by rw [List.length_reverse, hk]) fun i v s hv hs => ?_
  have hi := (List.getElem?_eq_some_iff.mp hv).1
  rw [List.getElem?_reverse (by omega)] at hs
  have hv2 : vs.reverse[vs.length - 1 - i]? = some v := by rw [List.getElem?_reverse (by omega)]; rw [show vs.length - 1 - (vs.length - 1 - i) = i by omega]; exact hv
  have hm : (some v, s) ∈ (vs.reverse.map some ++ zr).zip (ka ++ kr) := by
    rw [List.zip_append (by simp [hk])]
    refine List.mem_append_left _ (List.mem_iff_getElem?.mpr ⟨vs.length - 1 - i, List.getElem?_zip_eq_some.mpr ⟨by rw [List.getElem?_map, hv2]; rfl, by rw [← hk]; exact hs⟩⟩)
  rcases ha s (List.mem_of_getElem? hs) with ⟨t, rfl⟩ | ⟨j, rfl⟩
  · obtain ⟨v', e1, e2⟩ := er.ok.val _ (List.mem_append_right _ hm) t rfl
    cases e1
    exact e2
  · exact (er.al _ _ hm).1
theorem paired_append {α β : Type} {F : α → β → Prop} {xs ys : List α} {us ws : List β} (h : Paired F xs us) (h' : Paired F ys ws) : Paired F (xs ++ ys) (us ++ ws) := paired_app h h'
end
section
variable {X : Cx} {E : Ev} {e a b c : Expr} {es : List Expr} {pos : Pos} {f g h : EF}
/-- a default -/
def Dfl (E : Ev) (v : V) (t : T) : Prop := ∀ (M : Addr → Prop) H, Rep E M H v t
def fCall (n : Nat) (F : FT) (ds : List T) (f : EF) : EF := fun z => (f z).bind fun z1 => if Nat.ble n z1.k.length = true then callK n F z1.l z1.k ((z1.k.take n).reverse ++ ds.map .val) else none
theorem dfl_args {Mc : Addr → Prop} {H : Hp} {σ : List (Option V)} : ∀ {dvs : List V} {dts : List T}, Paired (Dfl E) dvs dts → Paired (ArgIs E Mc H σ) dvs (dts.map .val)
  | _, _, .nil => .nil
  | _, _, .cons h t => .cons (h _ _) (dfl_args t)
theorem call_pos {R : Rc} {σ zs : List (Option V)} {H : Hp} {n m : Nat} {F : FT} {vs dvs : List V} {dts : List T} {z z' : Z} {Q : VK} {Ex : XK} (hd : Paired (Dfl E) dvs dts) (hm : m = vs.length) (hn : m + dvs.length = n) (er : ER E R σ (vs.reverse.map some ++ zs) H z)
    (q : (if Nat.ble m z.k.length = true then callK m F z.l z.k ((z.k.take m).reverse ++ dts.map .val) else none) = some z') (c : ∀ v H', ER E R σ (some v :: zs) H' z' → Q v H') : spF E n F (vs ++ dvs) H Q Ex := by
  obtain ⟨l, k⟩ := z
  obtain ⟨q1, q2⟩ := ite_n q
  have hle := Nat.le_of_ble_eq_true q1
  dsimp only at hle q2
  have hk : k = k.take m ++ k.drop m := (List.take_append_drop m k).symm
  have hkl : (k.take m).length = vs.length := by rw [List.length_take, ← hm]; omega
  rw [hk] at er
  have q2' := q2
  unfold callK at q2'
  obtain ⟨⟨ss, l'⟩, r1, _⟩ := Option.bind_eq_some_iff.mp q2'
  have ha := (lend_arg r1).2
  have hp := er.argIs hkl fun s hs => ha s (List.mem_append_left _ (List.mem_reverse.mpr hs))
  refine call_er (ks := (k.take m).reverse ++ dts.map .val) (za := vs.reverse.map some) (zr := zs) er (by simp [hkl]) (paired_append hp (dfl_args hd)) (by rw [List.length_append, ← hm, hn]) (by rw [hkl, ← hm, ← hk]; exact q2) c
def tl1 (s : Sl) (t' : T) : Sl := match s with
  | .io _ => .io t'
  | _ => .own t'
/-- a local of one's own is written -/
theorem ER.wrl {R : Rc} {σ zs : List (Option V)} {H : Hp} {l k : List Sl} {j : Nat} {s : Sl} {t : T} (er : ER E R σ zs H ⟨l, k⟩) (hj : l[j]? = some s) (hs : s.own? = some t) :
    ∃ a, σ[j]? = some (some (.ref a)) ∧ OwnR E (Mz R σ zs ⟨l, k⟩) H a t ∧ ∀ t' o, OwnO E (Mz R σ zs ⟨l, k⟩) H a t' o → ER E R σ zs (upd H a o) ⟨l.set j (tl1 s t'), k⟩ := by
  obtain ⟨w, hw, hm⟩ := loc_at er.ll hj
  obtain ⟨a, e1, e2, e3⟩ := er.ok.own _ (List.mem_append_left _ hm) t hs
  dsimp only at e1
  subst e1
  refine ⟨a, hw, e3, fun t' o ho => ?_⟩
  have hjl := (List.getElem?_eq_some_iff.mp hj).1
  have P := pz_loc (zs := zs) (k := k) hw hj
  have g := er.ok.perm P
  have hk : (s = .own t ∧ tl1 s t' = .own t') ∨ (s = .io t ∧ tl1 s t' = .io t') := by
    cases s with
    | own u => cases hs; exact .inl ⟨rfl, rfl⟩
    | io u => cases hs; exact .inr ⟨rfl, rfl⟩
    | _ => cases hs
  have g2 := g.wr hs rfl hk (ho.mv (fun b o eb m => ⟨eb, fun z => m ((mx_perm P b).mpr z)⟩))
  refine ⟨by rw [List.length_set]; exact er.ll, er.lk, g2.perm (pz_set1 hw hj).symm, fun w i m => ?_, fun s' hs' => ?_, er.nk, fun i u hi => ?_⟩
  · obtain ⟨h1, s1, h2, h3⟩ := er.al w i m
    refine ⟨h1, ?_⟩
    by_cases q : j = i
    · subst q
      refine ⟨_, List.getElem?_set_self hjl, ?_⟩
      rcases hk with ⟨_, h⟩ | ⟨_, h⟩ <;> rw [h] <;> rfl
    · exact ⟨s1, by rw [List.getElem?_set_ne q]; exact h2, h3⟩
  · rcases List.mem_or_eq_of_mem_set hs' with hs' | rfl
    · exact er.nl s' hs'
    · rcases hk with ⟨_, h⟩ | ⟨_, h⟩ <;> rw [h] <;> rfl
  · by_cases q : j = i
    · subst q
      rw [List.getElem?_set_self hjl] at hi
      rcases hk with ⟨h, h'⟩ | ⟨h, h'⟩
      · rw [h'] at hi; cases hi
      · exact er.io j t (by rw [← h]; exact hj)
    · rw [List.getElem?_set_ne q] at hi; exact er.io i u hi
/-- the top of the stack as a local more, and back -/
theorem ER.toLoc {R : Rc} {σ zs : List (Option V)} {H : Hp} {l k : List Sl} {w : Option V} {s : Sl} (er : ER E R σ (w :: zs) H ⟨l, s :: k⟩) (ha : s.isAli = false) : ER E R (σ ++ [w]) zs H ⟨l ++ [s], k⟩ := by
  have hl : σ.length = l.length := er.ll
  refine ⟨by simp [hl], Nat.succ.inj er.lk, er.ok.perm ?_, fun v j m => ?_, fun s' hs => ?_, fun s' hs => er.nk s' (List.mem_cons_of_mem _ hs), fun i t hi => ?_⟩
  · show (σ.zip l ++ (w, s) :: zs.zip k).Perm ((σ ++ [w]).zip (l ++ [s]) ++ zs.zip k)
    rw [List.zip_append hl]
    simp
  · obtain ⟨h1, s1, h2, h3⟩ := er.al v j (List.mem_cons_of_mem _ m)
    have hj := (List.getElem?_eq_some_iff.mp h2).1
    refine ⟨by rw [List.getElem?_append_left (by rw [hl]; exact hj)]; exact h1, s1, by rw [List.getElem?_append_left hj]; exact h2, h3⟩
  · rcases List.mem_append.mp hs with hs | hs
    · exact er.nl s' hs
    · rw [List.mem_singleton.mp hs]; exact ha
  · by_cases q : i < l.length
    · rw [List.getElem?_append_left q] at hi
      rw [List.getElem?_append_left (by rw [hl]; exact q)]
      exact er.io i t hi
    · rw [List.getElem?_append_right (by omega)] at hi
      have hs := er.nk s List.mem_cons_self
      cases h : i - l.length with
      | zero => rw [h] at hi; simp at hi; rw [hi] at hs; cases hs
      | succ n => rw [h] at hi; simp at hi
theorem ER.ofLoc {R : Rc} {σ zs : List (Option V)} {H : Hp} {l k : List Sl} {w : Option V} {s : Sl} (hl : σ.length = l.length) (er : ER E R (σ ++ [w]) zs H ⟨l ++ [s], k⟩) (hn : noAli l.length k = true) (hio : s.isIo = false) : ER E R σ (w :: zs) H ⟨l, s :: k⟩ := by
  refine ⟨hl, congrArg (· + 1) er.lk, er.ok.perm ?_, fun v j m => ?_, fun s' hs => er.nl s' (List.mem_append_left _ hs), fun s' hs => ?_, fun i t hi => ?_⟩
  · show ((σ ++ [w]).zip (l ++ [s]) ++ zs.zip k).Perm (σ.zip l ++ (w, s) :: zs.zip k)
    rw [List.zip_append hl]
    simp
  · rcases List.mem_cons.mp m with m | m
    · cases m
      have := er.nl (.ali j) (List.mem_append_right _ List.mem_cons_self)
      cases this
    · obtain ⟨h1, s1, h2, h3⟩ := er.al v j m
      have hj := (List.getElem?_eq_some_iff.mp h2).1
      have hne : j ≠ l.length := by
        have := List.all_eq_true.mp hn _ (List.of_mem_zip m).2
        simpa using this
      have hj2 : j < l.length := by simp at hj; omega
      rw [List.getElem?_append_left hj2] at h2
      rw [List.getElem?_append_left (by omega)] at h1
      exact ⟨h1, s1, h2, h3⟩
  · rcases List.mem_cons.mp hs with rfl | hs
    · exact hio
    · exact er.nk s' hs
  · have q := (List.getElem?_eq_some_iff.mp hi).1
    have := er.io i t (by show (l ++ [s])[i]? = _; rw [List.getElem?_append_left q]; exact hi)
    rwa [List.getElem?_append_left (by rw [hl]; exact q)] at this
end
section
variable {X : Cx} {E : Ev} {e a b c o : Expr} {es : List Expr} {pos : Pos} {f g h : EF} {n m : Nat} {F : FT} {dvs : List V} {dts : List T} {Ex : XK}
theorem ed_call (hq : ∀ {t : TA}, PA X es t → PE X e (tCall (spF E n F) dvs Ex t)) (hd : Paired (Dfl E) dvs dts) (hn : es.length + dvs.length = n) (ha : AD X E es f) : ED X E e (fCall es.length F dts f) := ⟨pe_imp (hq ha.pa) fun σ H Q ⟨R, zs, z, z', er, q, c⟩ => by
  obtain ⟨z1, q1, q2⟩ := Option.bind_eq_some_iff.mp q
  exact ⟨R, zs, z, z1, er, q1, fun vs H1 hl e1 => call_pos hd hl.symm hn e1 q2 c⟩⟩
theorem ed_call0 (hq : PE X e (tCall (spF E n F) dvs Ex tNil)) (hd : Paired (Dfl E) dvs dts) (hn : dvs.length = n) : ED X E e (fCall 0 F dts f0) := ⟨pe_imp hq fun σ H Q ⟨R, zs, z, z', er, q, c⟩ => by
  obtain ⟨z1, q1, q2⟩ := Option.bind_eq_some_iff.mp q
  cases q1
  exact call_pos (Ex := Ex) (vs := []) hd rfl (by simpa using hn) er q2 c⟩
/-- the top is an instance of c without an attribute m -/
def isO (c m : Str) (z : Z) : Bool := match pp z with
  | some (.obj c' ns _, _) => c' == c && ns.all (· != m)
  | _ => false
theorem lookup_no {α : Type} {m : Str} : ∀ {fs : List (Str × α)}, (fs.map (·.1)).all (· != m) = true → fs.lookup m = none
  | [], _ => rfl
  | (x, v) :: fs, h => by
    rw [List.map_cons, List.all_cons, Bool.and_eq_true] at h
    rw [List.lookup_cons]
    have : (m == x) = false := by
      have h1 := h.1
      cases e : m == x with
      | false => rfl
      | true => rw [beq_iff_eq] at e; subst e; simp at h1
    rw [this]
    exact lookup_no h.2
theorem ER.isO {R : Rc} {σ zs : List (Option V)} {H : Hp} {v : V} {z : Z} {c m : Str} (er : ER E R σ (some v :: zs) H z) (h : Fn.isO c m z = true) : ∃ a dx fs, v = .ref a ∧ H a = some (.ins (E.cl c) dx fs) ∧ fs.lookup m = none := by
  unfold Fn.isO at h
  split at h
  · rename_i c' ns ts z1 hp
    rw [Bool.and_eq_true] at h
    obtain ⟨h1, h2⟩ := h
    cases beq_iff_eq.mp h1
    obtain ⟨w, e, r⟩ := er.top hp
    cases e
    obtain ⟨a, dx, fs, rfl, e1, e2, _⟩ := r.obj
    exact ⟨a, dx, fs, rfl, e1, lookup_no (by rw [e2]; exact h2)⟩
  · cases h
def fMeth (c m : Str) (n : Nat) (F : FT) (ds : List T) (f g : EF) : EF := fun z => (f z).bind fun z1 => if isO c m z1 = true then fCall (n + 1) F ds g z1 else none
theorem ed_meth {C : Addr} {cn mn : Str} (hC : E.cl cn = C) (hq : ∀ {ta : TE} {t : TA}, PE X o ta → PA X es t → PE X e (tMeth C mn (spF E n F) dvs Ex ta t)) (hd : Paired (Dfl E) dvs dts) (hn : es.length + 1 + dvs.length = n) (ho : ED X E o f) (ha : AD X E es g) : ED X E e (fMeth cn mn es.length F dts f g) := ⟨pe_imp (hq ho.pe ha.pa) fun σ H Q ⟨R, zs, z, z', er, q, c⟩ => by
  obtain ⟨z1, q1, q2⟩ := Option.bind_eq_some_iff.mp q
  obtain ⟨q3, q4⟩ := ite_n q2
  obtain ⟨z2, q5, q6⟩ := Option.bind_eq_some_iff.mp q4
  refine ⟨R, zs, z, z1, er, q1, fun x H1 e1 => ?_⟩
  obtain ⟨a, dx, fs, rfl, h1, h2⟩ := e1.isO q3
  refine ⟨a, dx, fs, rfl, by rw [← hC]; exact h1, h2, R, _, z1, z2, e1, q5, fun vs H2 hl e2 => ?_⟩
  exact call_pos (vs := .ref a :: vs) hd (by rw [List.length_cons, hl]) hn (by simpa using e2) q6 c⟩
theorem ed_meth0 {C : Addr} {cn mn : Str} (hC : E.cl cn = C) (hq : ∀ {ta : TE}, PE X o ta → PE X e (tMeth C mn (spF E n F) dvs Ex ta tNil)) (hd : Paired (Dfl E) dvs dts) (hn : 1 + dvs.length = n) (ho : ED X E o f) : ED X E e (fMeth cn mn 0 F dts f f0) := ⟨pe_imp (hq ho.pe) fun σ H Q ⟨R, zs, z, z', er, q, c⟩ => by
  obtain ⟨z1, q1, q2⟩ := Option.bind_eq_some_iff.mp q
  obtain ⟨q3, q4⟩ := ite_n q2
  obtain ⟨z2, q5, q6⟩ := Option.bind_eq_some_iff.mp q4
  cases q5
  refine ⟨R, zs, z, z1, er, q1, fun x H1 e1 => ?_⟩
  obtain ⟨a, dx, fs, rfl, h1, h2⟩ := e1.isO q3
  refine ⟨a, dx, fs, rfl, by rw [← hC]; exact h1, h2, ?_⟩
  exact call_pos (Ex := Ex) (vs := [.ref a]) hd rfl (by simpa using hn) e1 q6 c⟩
/-- a new instance, then __init__ -/
def mkEnd (n : Nat) (z : Z) : Option Z := match z.k with
  | .val .non :: k => match z.l[n]? with
    | some (.own t) => if (z.l.length == n + 1 && noAli n k) = true then some ⟨z.l.take n, .own t :: k⟩ else none
    | _ => none
  | _ => none
def fMake (c : Str) (n : Nat) (F : FT) (ds : List T) (f : EF) : EF := fun z => (f z).bind fun z1 => if Nat.ble n z1.k.length = true then (callK n F (z1.l ++ [.own (.obj c [] [])]) z1.k (.ali z1.l.length :: ((z1.k.take n).reverse ++ ds.map .val))).bind (mkEnd z1.l.length) else none
theorem ed_make {C : Addr} {cn : Str} (hC : E.cl cn = C) (hq : ∀ {t : TA}, PA X es t → PE X e (tMake C (spF E n F) dvs Ex t)) (hd : Paired (Dfl E) dvs dts) (hn : es.length + 1 + dvs.length = n) (ha : AD X E es f) : ED X E e (fMake cn es.length F dts f) := ⟨pe_imp (hq ha.pa) fun σ H Q ⟨R, zs, z, z', er, q, c⟩ => by
  obtain ⟨⟨l, k⟩, q1, q2⟩ := Option.bind_eq_some_iff.mp q
  obtain ⟨q3, q4⟩ := ite_n q2
  obtain ⟨z2, q5, q6⟩ := Option.bind_eq_some_iff.mp q4
  have hle := Nat.le_of_ble_eq_true q3
  dsimp only at hle q5 q6
  generalize hm : es.length = m at hle q5 q6 hn
  refine ⟨R, zs, z, _, er, q1, fun vs H1 hl e1 x dx hx hdx hne => ?_⟩
  have hkl : (k.take m).length = vs.length := by rw [List.length_take, hl]; omega
  have e2 := e1.same (same_new (o := .own x) hdx)
  have hx2 : (upd H1 dx (.own x)) x = none := by rw [upd_ne fun z => hne z.symm]; exact hx
  have e3 := ER.pown (l := l) (k := k) (t := .obj cn [] []) (o := .ins C dx []) e2 hx2 ⟨dx, [], by rw [hC], rfl, .nil⟩
  have e4 := e3.toLoc rfl
  have hll : σ.length = l.length := e1.ll
  have hk : k = k.take m ++ k.drop m := (List.take_append_drop m k).symm
  rw [hk] at e4
  have q5' := q5
  unfold callK at q5'
  obtain ⟨⟨ss, l'⟩, r1, _⟩ := Option.bind_eq_some_iff.mp q5'
  have hla := (lend_arg r1).2
  have hp := ER.argIs e4 hkl fun s hs => hla s (List.mem_cons_of_mem _ (List.mem_append_left _ (List.mem_reverse.mpr hs)))
  refine call_er (za := vs.reverse.map some) (zr := zs) (vs := .ref x :: (vs ++ dvs)) e4 (by simp [hkl]) (.cons ?_ (paired_append hp (dfl_args hd))) (by rw [List.length_cons, List.length_append, hl]; omega) (by rw [hkl, hl, ← hk]; exact q5) fun v H2 e5 => ?_
  · show (σ ++ [some (V.ref x)])[l.length]? = _
    rw [List.getElem?_append_right (by omega), hll, Nat.sub_self]
    rfl
  · unfold mkEnd at q6
    split at q6
    · rename_i k1 hk1
      split at q6
      · rename_i t ht
        obtain ⟨q7, q8⟩ := ite_some' q6
        subst q8
        rw [Bool.and_eq_true] at q7
        obtain ⟨l2, k2⟩ := z2
        dsimp only at hk1 ht q7
        subst hk1
        have hl2 : l2 = l2.take l.length ++ [.own t] := by
          have h1 : l2.length = l.length + 1 := eq_of_beq q7.1
          have h2 : l2.drop l.length = [.own t] := by
            have h3 : l2.drop l.length = l2[l.length]'(by omega) :: l2.drop (l.length + 1) := List.drop_eq_getElem_cons (by omega)
            rw [h3, List.drop_of_length_le (by omega)]
            obtain ⟨_, h4⟩ := List.getElem?_eq_some_iff.mp ht
            rw [h4]
          conv => lhs; rw [← List.take_append_drop l.length l2, h2]
        obtain ⟨w, h1, e6, r⟩ := ER.pp (t := .non) e5 rfl
        cases h1
        refine ⟨r.non, c _ _ ?_⟩
        rw [hl2] at e6
        have htl : (l2.take l.length).length = l.length := by rw [List.length_take, eq_of_beq q7.1]; omega
        refine ER.ofLoc (by rw [htl]; exact hll) e6 (by rw [htl]; exact q7.2) rfl
      · cases q6
    · cases q6⟩
/-- the argument is handed over for good, where it may -/
def frz1 (z : Z) : Z := match fz z with
  | some x => ⟨x.2.l, .val x.1 :: x.2.k⟩
  | none => z
def fFrz (f : EF) : EF := fun z => (f z).map frz1
theorem ed_frz (ha : ED X E e f) : ED X E e (fFrz f) := ⟨pe_imp ha.pe fun σ H Q ⟨R, zs, z, z', er, q, c⟩ => by
  obtain ⟨z1, q1, q2⟩ := Option.map_eq_some_iff.mp q
  subst q2
  refine ⟨R, zs, z, z1, er, q1, fun v H1 e1 => ?_⟩
  unfold frz1 at c
  cases h : fz z1 with
  | none => rw [h] at c; exact c v H1 e1
  | some x =>
    rw [h] at c
    obtain ⟨w, h1, e2, r⟩ := e1.fz h
    cases h1
    exact c v H1 (ER.pval (l := x.2.l) (k := x.2.k) e2 r)⟩
end
end Fn
set_option Elab.async false
set_option linter.all false
set_option maxRecDepth 100000
set_option maxHeartbeats 4000000
/-! own layer, data: operators -/
namespace Fn
open PySem PySem.Spec PyProof.Rows L2 Rw
mutual
def T.dat : T → Option PyData
  | .non => some .none
  | .bl b => some (.bool b)
  | .int i => some (.int i)
  | .str x => some (.str x)
  | .tup ts => (T.dats ts).map .tuple
  | .lst ts => (T.dats ts).map .list
  | _ => none
def T.dats : List T → Option (List PyData)
  | [] => some []
  | t :: ts => match T.dat t, T.dats ts with
    | some d, some ds => some (d :: ds)
    | _, _ => none
end
theorem dats_cons {t : T} {ts : List T} {ds : List PyData} (h : T.dats (t :: ts) = some ds) : ∃ d ds1, ds = d :: ds1 ∧ t.dat = some d ∧ T.dats ts = some ds1 := by
  unfold T.dats at h
  split at h
  · cases h; exact ⟨_, _, rfl, ‹_›, ‹_›⟩
  · cases h
section
variable {E : Ev} {M : Addr → Prop} {H : Hp}
mutual
theorem Rep.dp : ∀ (t : T) (v : V) (d : PyData), Rep E M H v t → t.dat = some d → Dp E.K H v d
  | .non, _, _, h, e => by cases h; cases e; exact .non
  | .bl _, _, _, h, e => by cases h; cases e; exact .bl _
  | .int _, _, _, h, e => by cases h; cases e; exact .int _
  | .str _, _, _, h, e => by cases h; cases e; exact .str _
  | .tup ts, _, _, h, e => by
    unfold T.dat at e
    obtain ⟨ds, e1, rfl⟩ := Option.map_eq_some_iff.mp e
    cases h with
    | tup _ ha hs => exact .tup (.inl ha) (RepAll.dp ts _ _ hs e1)
    | ktup ha hs => exact .tup (.inr ha) (RepAll.dp ts _ _ hs e1)
  | .lst ts, _, _, h, e => by
    unfold T.dat at e
    obtain ⟨ds, e1, rfl⟩ := Option.map_eq_some_iff.mp e
    cases h with
    | lst _ ha hs => exact .lst (.inl (.inl ha)) (RepAll.dp ts _ _ hs e1)
  | .scr _, _, _, h, e => by unfold T.dat at e; cases e
  | .obj _ _ _, _, _, h, e => by unfold T.dat at e; cases e
  | .dic _ _, _, _, h, e => by unfold T.dat at e; cases e
  | .rng _ _, _, _, h, e => by unfold T.dat at e; cases e
theorem RepAll.dp : ∀ (ts : List T) (vs : List V) (ds : List PyData), RepAll E M H vs ts → T.dats ts = some ds → DpAll E.K H vs ds
  | [], _, _, h, e => by cases h; unfold T.dats at e; cases e; exact .nil
  | t :: ts, _, _, h, e => by
    obtain ⟨d, ds1, rfl, e1, e2⟩ := dats_cons e
    cases h with
    | cons h1 h2 => exact .cons (Rep.dp t _ _ h1 e1) (RepAll.dp ts _ _ h2 e2)
end
theorem Seen.dp {v : V} {t : T} {d : PyData} (h : Seen E M H v t) (e : t.dat = some d) : Dp E.K H v d := by
  rcases h with h | ⟨a, rfl, h⟩
  · exact Rep.dp t _ _ h e
  · exact Rep.dp (M := fun _ => False) t _ _ (h.rep (fun _ z => z.elim) fun z => z) e
theorem dp_k {X : Cx} [ex : EX X E] {v : V} {d : PyData} (h : Dp E.K H v d) : Dp X.K H v d := ex.k ▸ h
end
def lineOk (n : Nat) : Bool := Nat.ble n sizeLine
theorem lineOk_le {n : Nat} (h : lineOk n = true) : n ≤ sizeLine := Nat.le_of_ble_eq_true h
section
variable {X : Cx} {E : Ev} [ex : EX X E]
def oAdd : O2
  | .int i, .int j => some (.val (.int (i + j)))
  | .str a, .str b => if lineOk (a.length + b.length) = true then some (.val (.str (a ++ b))) else none
  | .tup xs, .tup ys => if lineOk (xs.length + ys.length) = true then some (.val (.tup (xs ++ ys))) else none
  | .lst xs, .lst ys => if lineOk (xs.length + ys.length) = true then some (.own (.lst (xs ++ ys))) else none
  | _, _ => none
def rAddT (K : PySem.W.Frag) : R2 := fun x y H Q => (((∃ i j, x = .int i ∧ y = .int j ∧ Q (.int (i + j)) H) ∨ (∃ i j, x = .str i ∧ y = .str j ∧ i.length + j.length ≤ sizeLine ∧ Q (.str (i ++ j)) H)) ∨ rCatA K x y H Q) ∨ rCat x y H Q
theorem opr_add : OpR X (binaryOp .Add) (rAddT X.K) := OpR.or (OpR.or (OpR.or op_add op_add_str) op_catA) op_cat
theorem nil_iff {M : Addr → Prop} {H : Hp} {xs : List V} {ts : List T} (h : RepAll E M H xs ts) : xs = [] ↔ ts = [] := by
  cases h with
  | nil => exact ⟨fun _ => rfl, fun _ => rfl⟩
  | cons => exact ⟨(fun z => nomatch z), (fun z => nomatch z)⟩
theorem Seen.repT {M : Addr → Prop} {H : Hp} {v : V} {ts : List T} (h : Seen E M H v (.tup ts)) : Rep E M H v (.tup ts) := by
  rcases h with h | ⟨a, rfl, o, e, h⟩
  · exact h
  · exact h.elim
theorem ok_add : Ok2 E (rAddT X.K) oAdd := fun M H x y tx ty s Q k hx hy ho c => by
  unfold oAdd at ho
  split at ho
  · cases ho; cases hx.int; cases hy.int
    exact .inl (.inl (.inl ⟨_, _, rfl, rfl, c _ _ (res_v (.int _))⟩))
  · obtain ⟨h1, h2⟩ := ite_some' ho
    subst h2; cases hx.str; cases hy.str
    exact .inl (.inl (.inr ⟨_, _, rfl, rfl, lineOk_le h1, c _ _ (res_v (.str _))⟩))
  · obtain ⟨h1, h2⟩ := ite_some' ho
    subst h2
    obtain ⟨a, xs, rfl, r1, r2⟩ := hx.tup
    obtain ⟨b, ys, rfl, r3, r4⟩ := hy.tup
    refine .inl (.inr ⟨a, b, xs, ys, rfl, rfl, EX.t r1, EX.t r3, by rw [r2.len, r4.len]; exact lineOk_le h1, fun e => ?_, fun e1 e2 => ?_, fun e1 e2 p hp => ?_⟩)
    · cases e; cases r2
      exact c _ _ (res_v hy.repT)
    · cases e2; cases r4
      rw [List.append_nil] at c
      exact c _ _ (res_v hx.repT)
    · exact c _ _ (res_t k hp (r2.app r4))
  · obtain ⟨h1, h2⟩ := ite_some' ho
    subst h2
    obtain ⟨a, xs, rfl, r1, r2⟩ := hx.lstM
    obtain ⟨b, ys, rfl, r3, r4⟩ := hy.lstM
    exact .inr ⟨a, b, xs, ys, rfl, rfl, r1, r3, by rw [r2.len, r4.len]; exact lineOk_le h1, fun p hp => c _ _ (res_l hp (r2.app r4))⟩
  · cases ho
def oI (f : Int → Int → Int) : O2
  | .int i, .int j => some (.val (.int (f i j)))
  | _, _ => none
def oIc (p : Int → Int → Bool) (f : Int → Int → Int) : O2
  | .int i, .int j => if p i j = true then some (.val (.int (f i j))) else none
  | _, _ => none
def oIb (f : Int → Int → Bool) : O2
  | .int i, .int j => some (.val (.bl (f i j)))
  | _, _ => none
theorem ok_I {f : Int → Int → Int} : Ok2 E (rI0 fun i j => .int (f i j)) (oI f) := fun M H x y tx ty s Q k hx hy ho c => by
  unfold oI at ho
  split at ho
  · cases ho; cases hx.int; cases hy.int; exact ⟨_, _, rfl, rfl, c _ _ (res_v (.int _))⟩
  · cases ho
theorem ok_Ic {C : Int → Int → Prop} {p : Int → Int → Bool} {f : Int → Int → Int} (h : ∀ i j, p i j = true → C i j) : Ok2 E (rI C fun i j => .int (f i j)) (oIc p f) := fun M H x y tx ty s Q k hx hy ho c => by
  unfold oIc at ho
  split at ho
  · obtain ⟨h1, h2⟩ := ite_some' ho
    subst h2; cases hx.int; cases hy.int; exact ⟨_, _, rfl, rfl, h _ _ h1, c _ _ (res_v (.int _))⟩
  · cases ho
theorem ok_Ib {f : Int → Int → Bool} : Ok2 E (rI0 fun i j => .bl (f i j)) (oIb f) := fun M H x y tx ty s Q k hx hy ho c => by
  unfold oIb at ho
  split at ho
  · cases ho; cases hx.int; cases hy.int; exact ⟨_, _, rfl, rfl, c _ _ (res_v (.bl _))⟩
  · cases ho
/-! the numbers' operators -/
def oSub : O2 := oI fun i j => i - j
theorem ok_sub : Ok2 E (rI0 fun i j => .int (i - j)) oSub := ok_I
def pos (_ j : Int) : Bool := decide (0 < j)
def oMod : O2 := oIc pos fun i j => i % j
theorem ok_mod : Ok2 E (rI (fun _ j => 0 < j) fun i j => .int (i % j)) oMod := ok_Ic fun i j h => of_decide_eq_true h
def mulB (i j : Int) : Bool := (decide (-18446744073709551616 < i) && decide (i < 18446744073709551616)) || (decide (-18446744073709551616 < j) && decide (j < 18446744073709551616))
theorem p64 : (2 : Int) ^ 64 = 18446744073709551616 := by decide
def oMul : O2 := oIc mulB fun i j => i * j
theorem ok_mul : Ok2 E (rI CMul fun i j => .int (i * j)) oMul := ok_Ic fun i j h => by
  unfold mulB at h
  rw [Bool.or_eq_true, Bool.and_eq_true, Bool.and_eq_true] at h
  rcases h with ⟨h1, h2⟩ | ⟨h1, h2⟩
  · exact .inl ⟨by rw [p64]; exact of_decide_eq_true h1, by rw [p64]; exact of_decide_eq_true h2⟩
  · exact .inr ⟨by rw [p64]; exact of_decide_eq_true h1, by rw [p64]; exact of_decide_eq_true h2⟩
def divB (i j : Int) : Bool := decide (0 < j) && decide (j < 1073741824)
def oDiv : O2 := oIc divB fun i j => i / j
theorem ok_div : Ok2 E (rI CDiv fun i j => .int (i / j)) oDiv := ok_Ic fun i j h => by
  unfold divB at h
  rw [Bool.and_eq_true] at h
  exact ⟨of_decide_eq_true h.1, of_decide_eq_true h.2⟩
def powB (i j : Int) : Bool := (decide (0 ≤ j) && decide (j ≤ 1000000)) && decide (i.natAbs < 2 ^ 64)
def oPow : O2 := oIc powB fun i j => i ^ j.toNat
theorem ok_pow : Ok2 E (rI CPow fun i j => .int (i ^ j.toNat)) oPow := ok_Ic fun i j h => by
  unfold powB at h
  rw [Bool.and_eq_true, Bool.and_eq_true] at h
  exact ⟨of_decide_eq_true h.1.1, of_decide_eq_true h.1.2, of_decide_eq_true h.2⟩
def oLt : O2 := oIb fun i j => decide (i < j)
def oLe : O2 := oIb fun i j => decide (i ≤ j)
def oGt : O2 := oIb fun i j => decide (j < i)
def oGe : O2 := oIb fun i j => decide (j ≤ i)
theorem ok_lt : Ok2 E (rI0 fun i j => .bl (decide (i < j))) oLt := ok_Ib
theorem ok_le : Ok2 E (rI0 fun i j => .bl (decide (i ≤ j))) oLe := ok_Ib
theorem ok_gt : Ok2 E (rI0 fun i j => .bl (decide (j < i))) oGt := ok_Ib
theorem ok_ge : Ok2 E (rI0 fun i j => .bl (decide (j ≤ i))) oGe := ok_Ib
/-! equality of data -/
def oEqD (neg : Bool) : O2 := fun a b => match a.dat, b.dat with
  | some d, some e => if (SeqAt.shaped d && SeqAt.shaped e) = true then some (.val (.bl (if neg = true then !PyData.eqv d e else PyData.eqv d e))) else none
  | _, _ => none
theorem ok_eqD : Ok2 E (rEqD X.K) (oEqD false) := fun M H x y tx ty s Q k hx hy ho c => by
  unfold oEqD at ho
  split at ho
  · obtain ⟨h1, h2⟩ := ite_some' ho
    subst h2
    rw [Bool.and_eq_true] at h1
    exact ⟨_, _, dp_k (hx.dp ‹_›), dp_k (hy.dp ‹_›), h1.1, h1.2, c _ _ (res_v (.bl _))⟩
  · cases ho
theorem ok_neD : Ok2 E (rNeD X.K) (oEqD true) := fun M H x y tx ty s Q k hx hy ho c => by
  unfold oEqD at ho
  split at ho
  · obtain ⟨h1, h2⟩ := ite_some' ho
    subst h2
    rw [Bool.and_eq_true] at h1
    exact ⟨_, _, dp_k (hx.dp ‹_›), dp_k (hy.dp ‹_›), h1.1, h1.2, c _ _ (res_v (.bl _))⟩
  · cases ho
/-! is -/
def T.isN : T → Bool
  | .non => true
  | _ => false
def oIsN (neg : Bool) : O2 := fun a b => match b with
  | .non => some (.val (.bl (if neg = true then !a.isN else a.isN)))
  | _ => none
theorem isN_ok {M : Addr → Prop} {H : Hp} {x : V} {t : T} (h : Seen E M H x t) : decide (x = .non) = t.isN := by
  rcases h with h | ⟨a, rfl, o, e, h⟩
  · cases h <;> rfl
  · cases t <;> first | rfl | exact h.elim
theorem ok_isN : Ok2 E (fun x y H Q => y = .non ∧ Q (.bl (decide (x = .non))) H) (oIsN false) := fun M H x y tx ty s Q k hx hy ho c => by
  unfold oIsN at ho
  split at ho
  · cases ho; cases hy.non; exact ⟨rfl, by rw [isN_ok hx]; exact c _ _ (res_v (.bl _))⟩
  · cases ho
theorem ok_notN : Ok2 E (fun x y H Q => y = .non ∧ Q (.bl (!decide (x = .non))) H) (oIsN true) := fun M H x y tx ty s Q k hx hy ho c => by
  unfold oIsN at ho
  split at ho
  · cases ho; cases hy.non; exact ⟨rfl, by rw [isN_ok hx]; exact c _ _ (res_v (.bl _))⟩
  · cases ho
end
end Fn
set_option Elab.async false
set_option linter.all false
set_option maxRecDepth 100000
set_option maxHeartbeats 4000000
/-! own layer, data: in, subscripts, slices, built-ins -/
namespace Fn
open PySem PySem.Spec PyProof.Rows L2 Rw
def T.flat : T → Bool
  | .non => true
  | .bl _ => true
  | .int _ => true
  | .str _ => true
  | _ => false
def eqT : T → T → Bool
  | .non, .non => true
  | .bl a, .bl b => a == b
  | .bl a, .int b => (if a then 1 else 0) == b
  | .int a, .bl b => a == (if b then 1 else 0)
  | .int a, .int b => a == b
  | .str a, .str b => a == b
  | _, _ => false
def inT (x : T) (ts : List T) : Bool := ts.any fun y => eqT y x
section
variable {E : Ev} {M : Addr → Prop} {H : Hp}
theorem flat_v {t : T} {v : V} (h : Rep E M H v t) (f : t.flat = true) : flatV v = true := by cases h <;> first | rfl | cases f
theorem eq_v {t u : T} {v w : V} (h : Rep E M H v t) (f : t.flat = true) (h' : Rep E M H w u) (f' : u.flat = true) : eqV v w = eqT t u := by
  cases h <;> (cases h' <;> first | rfl | cases f' | cases f)
theorem flats_v : ∀ {ts : List T} {xs : List V}, RepAll E M H xs ts → ts.all T.flat = true → xs.all flatV = true
  | _, _, .nil, _ => rfl
  | _, _, .cons h hs, f => by
    rw [List.all_cons, Bool.and_eq_true] at f
    rw [List.all_cons, flat_v h f.1, flats_v hs f.2]; rfl
theorem in_v {x : V} {t : T} (h : Rep E M H x t) (f : t.flat = true) : ∀ {ts : List T} {xs : List V}, RepAll E M H xs ts → ts.all T.flat = true → inV x xs = inT t ts
  | _, _, .nil, _ => rfl
  | _, _, .cons h1 hs, f2 => by
    rw [List.all_cons, Bool.and_eq_true] at f2
    unfold inV inT
    rw [List.any_cons, List.any_cons, eq_v h1 f2.1 h f]
    exact congrArg _ (in_v h f hs f2.2)
theorem Seen.flat {v : V} {t : T} (h : Seen E M H v t) (f : t.flat = true) : Rep E M H v t := by
  rcases h with h | ⟨a, rfl, o, e, h⟩
  · exact h
  · cases t <;> first | exact h.elim | cases f
end
section
variable {X : Cx} {E : Ev} [ex : EX X E]
/-- x in y: flat things in a list, a tuple; data in a list; an int in a range; a sign in a text -/
def oIn (neg : Bool) : O2 := fun x y => match y with
  | .lst ts => if (x.flat && ts.all T.flat) = true then some (.val (.bl (if neg = true then !inT x ts else inT x ts))) else match x.dat, T.dats ts with
    | some d, some ds => if (SeqAt.shaped d && SeqAt.shaped (.list ds)) = true then some (.val (.bl (if neg = true then !(ds.any fun z => PyData.eqv z d) else ds.any fun z => PyData.eqv z d))) else none
    | _, _ => none
  | .tup ts => if (x.flat && ts.all T.flat) = true then some (.val (.bl (if neg = true then !inT x ts else inT x ts))) else none
  | _ => none
def rInA (K : PySem.W.Frag) (neg : Bool) : R2 := fun x y H Q => rIn K neg x y H Q ∨ (if neg = true then rNotInD K x y H Q else rInD K x y H Q)
theorem opr_in (hu : X.A.units + 65 < cLine) : OpR X (compareOp .In) (rInA X.K false) := OpR.or op_in_seq (op_inD hu)
theorem opr_notIn (hu : X.A.units + 65 < cLine) : OpR X (compareOp .NotIn) (rInA X.K true) := OpR.or op_notIn_seq (op_notInD hu)
theorem sql_k {H : Hp} {a : Addr} {xs : List V} (h : SqL E.K H a xs) : SqL X.K H a xs := ex.k ▸ h
theorem ok_in (neg : Bool) : Ok2 E (rInA X.K neg) (oIn neg) := fun M H x y tx ty s Q k hx hy ho c => by
  unfold oIn at ho
  split at ho
  · rename_i ts
    split at ho
    · rename_i hf
      cases ho
      rw [Bool.and_eq_true] at hf
      obtain ⟨a, xs, rfl, r1, r2⟩ := hy.lst
      have hr := hx.flat hf.1
      exact .inl ⟨a, xs, rfl, .inl (.inl r1), flat_v hr hf.1, flats_v r2 hf.2, by rw [in_v hr hf.1 r2 hf.2]; exact c _ _ (res_v (.bl _))⟩
    · split at ho
      · rename_i d ds hd hds
        obtain ⟨h1, h2⟩ := ite_some' ho
        subst h2
        rw [Bool.and_eq_true] at h1
        have e2 : (T.lst ts).dat = some (.list ds) := by unfold T.dat; rw [hds]; rfl
        cases neg with
        | true => exact .inr ⟨d, ds, dp_k (hx.dp hd), dp_k (hy.dp e2), h1.1, h1.2, c _ _ (res_v (.bl _))⟩
        | false => exact .inr ⟨d, ds, dp_k (hx.dp hd), dp_k (hy.dp e2), h1.1, h1.2, c _ _ (res_v (.bl _))⟩
      · cases ho
  · rename_i ts
    obtain ⟨h1, h2⟩ := ite_some' ho
    subst h2
    rw [Bool.and_eq_true] at h1
    obtain ⟨a, xs, rfl, r1, r2⟩ := hy.tup
    have hr := hx.flat h1.1
    exact .inl ⟨a, xs, rfl, .inr (EX.t r1), flat_v hr h1.1, flats_v r2 h1.2, by rw [in_v hr h1.1 r2 h1.2]; exact c _ _ (res_v (.bl _))⟩
  · cases ho
def oInR (neg : Bool) : O2 := fun x y => match x, y with
  | .int i, .rng lo hi => if neg = true then none else some (.val (.bl (decide (lo ≤ i ∧ i < hi))))
  | _, _ => none
theorem ok_inR : Ok2 E (fun x y H Q => ∃ i a lo hi, x = V.int i ∧ y = V.ref a ∧ H a = some (.rng lo hi) ∧ Q (.bl (decide (lo ≤ i ∧ i < hi))) H) (oInR false) := fun M H x y tx ty s Q k hx hy ho c => by
  unfold oInR at ho
  split at ho
  · cases ho
    obtain ⟨a, rfl, h⟩ := hy.rng
    cases hx.int
    exact ⟨_, a, _, _, rfl, rfl, h, c _ _ (res_v (.bl _))⟩
  · cases ho
def oInS (neg : Bool) : O2 := fun x y => match x, y with
  | .str a, .str b => match a.cps.toList with
    | [c] => some (.val (.bl (if neg = true then !decide (c ∈ b.cps.toList) else decide (c ∈ b.cps.toList))))
    | _ => none
  | _, _ => none
theorem one_sign {a : Str} {c : Nat} (h : a.cps.toList = [c]) : a = ⟨#[c]⟩ := by
  obtain ⟨cps⟩ := a
  congr
  exact Array.toList_inj.mp h
theorem ok_inS : Ok2 E (fun x y H Q => ∃ (c : Nat) (z : Str), x = .str ⟨#[c]⟩ ∧ y = .str z ∧ Q (.bl (decide (c ∈ z.cps.toList))) H) (oInS false) := fun M H x y tx ty s Q k hx hy ho c => by
  unfold oInS at ho
  split at ho
  · split at ho
    · rename_i d hd
      cases ho
      cases hx.str; cases hy.str
      exact ⟨d, _, by rw [one_sign hd], rfl, c _ _ (res_v (.bl _))⟩
    · cases ho
  · cases ho
theorem ok_notInS : Ok2 E (fun x y H Q => ∃ (c : Nat) (z : Str), x = .str ⟨#[c]⟩ ∧ y = .str z ∧ Q (.bl (!decide (c ∈ z.cps.toList))) H) (oInS true) := fun M H x y tx ty s Q k hx hy ho c => by
  unfold oInS at ho
  split at ho
  · split at ho
    · rename_i d hd
      cases ho
      cases hx.str; cases hy.str
      exact ⟨d, _, by rw [one_sign hd], rfl, c _ _ (res_v (.bl _))⟩
    · cases ho
  · cases ho
/-! subscripts -/
def oIx : O2 := fun x y => match x, y with
  | .lst ts, .int i => (atI ts i).map .val
  | .tup ts, .int i => (atI ts i).map .val
  | .scr ts, .int i => (atI ts i).map .val
  | .str z, .int i => if lineOk z.length = true then (atI z.cps.toList i).map fun c => .val (.str ⟨#[c]⟩) else none
  | _, _ => none
theorem atI_rep {M : Addr → Prop} {H : Hp} {xs : List V} {ts : List T} {i : Int} {t : T} (h : RepAll E M H xs ts) (e : atI ts i = some t) : ∃ v, atI xs i = some v ∧ Rep E M H v t := by
  unfold atI at e ⊢
  rw [h.len]
  obtain ⟨j, e1, e2⟩ := Option.bind_eq_some_iff.mp e
  obtain ⟨v, h1, h2⟩ := h.at_ e2
  exact ⟨v, by rw [e1]; exact h1, h2⟩
theorem ok_ix : Ok2 E (rIx X.K) oIx := fun M H x y tx ty s Q k hx hy ho c => by
  unfold oIx at ho
  split at ho
  · obtain ⟨t, e1, rfl⟩ := Option.map_eq_some_iff.mp ho
    obtain ⟨a, xs, rfl, r1, r2⟩ := hx.lst
    cases hy.int
    obtain ⟨v, e2, e3⟩ := atI_rep r2 e1
    exact .inl ⟨a, xs, _, v, rfl, rfl, .inl r1, e2, c _ _ (res_v e3)⟩
  · obtain ⟨t, e1, rfl⟩ := Option.map_eq_some_iff.mp ho
    obtain ⟨a, xs, rfl, r1, r2⟩ := hx.tup
    cases hy.int
    obtain ⟨v, e2, e3⟩ := atI_rep r2 e1
    exact .inr (.inl ⟨a, xs, _, v, rfl, rfl, EX.t r1, e2, c _ _ (res_v e3)⟩)
  · obtain ⟨t, e1, rfl⟩ := Option.map_eq_some_iff.mp ho
    obtain ⟨a, xs, rfl, r1, r2⟩ := hx.scr
    cases hy.int
    obtain ⟨v, e2, e3⟩ := atI_rep r2 e1
    exact .inl ⟨a, xs, _, v, rfl, rfl, sql_k r1, e2, c _ _ (res_v e3)⟩
  · obtain ⟨h1, h2⟩ := ite_n ho
    obtain ⟨d, e1, rfl⟩ := Option.map_eq_some_iff.mp h2
    cases hx.str; cases hy.int
    exact .inr (.inr ⟨_, _, d, rfl, rfl, lineOk_le h1, e1, c _ _ (res_v (.str _))⟩)
  · cases ho
end
/-! slices -/
abbrev OF := Z → Option (Option Int × Z)
def tO (E : Ev) (f : OF) : TO := fun σ H Q => ∃ R zs z o z', ER E R σ zs H z ∧ f z = some (o, z') ∧ ∀ H', ER E R σ zs H' z' → Q o H'
structure OD (X : Cx) (E : Ev) (e : Option Expr) (f : OF) : Prop where
  po : PO X e (tO E f)
section
variable {X : Cx} {E : Ev} {e a b : Expr} {lo hi : Option Expr} {es : List Expr} {pos p2 : Pos} {f g h : EF} {fl fh : OF}
theorem po_imp {t t' : TO} (h : PO X lo t) (k : ∀ σ H Q, t' σ H Q → t σ H Q) : PO X lo t' := ⟨fun pins s σ H Q I q => h.run pins s σ H Q I (k σ H Q q)⟩
def gNoP : OF := fun z => some (none, z)
def gPart (f : EF) : OF := fun z => (f z).bind fun z1 => match pp z1 with
  | some (.int i, z2) => some (some i, z2)
  | _ => none
theorem od_none : OD X E none gNoP := ⟨po_imp po_none fun σ H Q ⟨R, zs, z, o, z', er, q, c⟩ => by cases q; exact c H er⟩
theorem od_some (ha : ED X E e f) : OD X E (some e) (gPart f) := ⟨po_imp (po_some ha.pe) fun σ H Q ⟨R, zs, z, o, z', er, q, c⟩ => by
  obtain ⟨z1, q1, q2⟩ := Option.bind_eq_some_iff.mp q
  split at q2
  · rename_i i z2 hp
    cases q2
    refine ⟨R, zs, z, z1, er, q1, fun v H1 e1 => ?_⟩
    obtain ⟨w, h1, e2, r⟩ := e1.pp hp
    cases h1
    exact ⟨i, r.int, c H1 e2⟩
  · cases q2⟩
def cutT (ts : List T) (lo hi : Option Int) : List T := (ts.drop (HT.sIx ts.length 0 lo)).take (HT.sIx ts.length ts.length hi - HT.sIx ts.length 0 lo)
theorem cut_rep {M : Addr → Prop} {H : Hp} {xs : List V} {ts : List T} (h : RepAll E M H xs ts) (lo hi : Option Int) : RepAll E M H (cutV xs lo hi) (cutT ts lo hi) := by
  unfold cutV cutT
  rw [h.len]
  exact RepAll.take _ (RepAll.drop _ h)
def oSl (t : T) (lo hi : Option Int) : Option Sl := match t with
  | .lst ts => some (.own (.lst (cutT ts lo hi)))
  | .tup ts => some (.val (.tup (cutT ts lo hi)))
  | _ => none
def fSl (f : EF) (fl fh : OF) : EF := fun z => (f z).bind fun z1 => (fl z1).bind fun x => (fh x.2).bind fun y => (pp y.2).bind fun w => (oSl w.1 x.1 y.1).bind fun s => some ⟨w.2.l, s :: w.2.k⟩
def rSlB (K : PySem.W.Frag) : V → Option Int → Option Int → Hp → VK → Prop := fun x lo hi H Q => rSlL K x lo hi H Q ∨ rSlA K x lo hi H Q
theorem slr : SlR X (rSlB X.K) := SlR.or sl_list sl_tupA
theorem ed_slice [EX X E] (he : ED X E e f) (hl : OD X E lo fl) (hh : OD X E hi fh) : ED X E (.Subscript e (.Slice lo hi none p2) pos) (fSl f fl fh) := ⟨pe_imp (pe_slice slr he.pe hl.po hh.po) fun σ H Q ⟨R, zs, z, z', er, q, c⟩ => by
  obtain ⟨z1, q1, q2⟩ := Option.bind_eq_some_iff.mp q
  obtain ⟨⟨o1, z2⟩, q3, q4⟩ := Option.bind_eq_some_iff.mp q2
  obtain ⟨⟨o2, z3⟩, q5, q6⟩ := Option.bind_eq_some_iff.mp q4
  obtain ⟨⟨t, z4⟩, q7, q8⟩ := Option.bind_eq_some_iff.mp q6
  obtain ⟨s, q9, q10⟩ := Option.bind_eq_some_iff.mp q8
  cases q10
  refine ⟨R, zs, z, z1, er, q1, fun v H1 e1 => ⟨R, _, z1, o1, z2, e1, q3, fun H2 e2 => ⟨R, _, z2, o2, z3, e2, q5, fun H3 e3 => ?_⟩⟩⟩
  obtain ⟨w, h1, e4, r⟩ := e3.pp q7
  cases h1
  dsimp only at q9
  unfold oSl at q9
  split at q9
  · cases q9
    obtain ⟨a, xs, rfl, r1, r2⟩ := r.lst
    exact .inl ⟨a, xs, rfl, .inl r1, fun p hp => c _ _ (ER.pres (l := z4.l) (k := z4.k) e4 (res_l hp (cut_rep r2 _ _)))⟩
  · cases q9
    obtain ⟨a, xs, rfl, r1, r2⟩ := r.tup
    refine .inr ⟨a, xs, rfl, EX.t r1, fun hw => ?_, fun hw p hp => c _ _ (ER.pres (l := z4.l) (k := z4.k) e4 (res_t e4.trk hp (cut_rep r2 _ _)))⟩
    rename_i ts
    have : cutT ts o1 o2 = ts := by
      unfold cutT
      rw [← r2.len, hw.1, hw.2, Nat.sub_zero, List.drop_zero, r2.len, List.take_length]
    rw [this] at c
    exact c _ _ (ER.pres (l := z4.l) (k := z4.k) e4 (res_v r.repT))
  · cases q9⟩
def fRv (f : EF) : EF := fun z => (f z).bind fun z1 => match pp z1 with
  | some (.lst ts, z2) => some ⟨z2.l, .own (.lst ts.reverse) :: z2.k⟩
  | _ => none
theorem ed_rev {i : Nat} {p3 p4 : Pos} (he : ED X E e f) : ED X E (.Subscript e (.Slice none none (some (.UnaryOp .USub (.Constant (.int 1) i p3) p4)) p2) pos) (fRv f) := ⟨pe_imp (pe_rev he.pe (pe_un un_neg pe_int)) fun σ H Q ⟨R, zs, z, z', er, q, c⟩ => by
  obtain ⟨z1, q1, q2⟩ := Option.bind_eq_some_iff.mp q
  split at q2
  · rename_i ts z2 hp
    cases q2
    refine ⟨R, zs, z, z1, er, q1, fun v H1 e1 => ?_⟩
    obtain ⟨w, h1, e2, r⟩ := e1.pp hp
    cases h1
    obtain ⟨a, xs, rfl, r1, r2⟩ := r.lst
    exact ⟨1, rfl, a, xs, rfl, rfl, .inl r1, fun p hpn => c _ _ (ER.pres (l := z2.l) (k := z2.k) e2 (res_l hpn r2.rev))⟩
  · cases q2⟩
/-! built-ins -/
abbrev ON := List T → Option Sl
def OkC (E : Ev) (r : List V → Hp → VK → Prop) (op : ON) : Prop := ∀ (M : Addr → Prop) (H : Hp) xs ts s Q, (∀ a, M a → H a ≠ none) → SeenAll E M H xs ts → op ts = some s → (∀ v H', Res E M H H' v s → Q v H') → r xs H Q
def fCB (n : Nat) (op : ON) (f : EF) : EF := fun z => (f z).bind fun z1 => (ppN n z1).bind fun x => (op x.1).bind fun s => some ⟨x.2.l, s :: x.2.k⟩
theorem ed_cb {r : List V → Hp → VK → Prop} {op : ON} (hq : ∀ {t : TA}, PA X es t → PE X e (tCB r t)) (ho : OkC E r op) (ha : AD X E es f) : ED X E e (fCB es.length op f) := ⟨pe_imp (hq ha.pa) fun σ H Q ⟨R, zs, z, z', er, q, c⟩ => by
  obtain ⟨z1, q1, q2⟩ := Option.bind_eq_some_iff.mp q
  obtain ⟨⟨ts, z2⟩, q3, q4⟩ := Option.bind_eq_some_iff.mp q2
  obtain ⟨s, q5, q6⟩ := Option.bind_eq_some_iff.mp q4
  cases q6
  refine ⟨R, zs, z, z1, er, q1, fun vs H1 hl e1 => ?_⟩
  obtain ⟨e2, r2⟩ := e1.ppA hl q3
  exact ho _ H1 vs ts s Q e2.trk r2 q5 fun v H' h => c v H' (ER.pres (l := z2.l) (k := z2.k) e2 h)⟩
theorem seen1 {M : Addr → Prop} {H : Hp} {xs : List V} {t : T} (h : SeenAll E M H xs [t]) : ∃ x, xs = [x] ∧ Seen E M H x t := by
  cases h with
  | cons h1 h2 => cases h2; exact ⟨_, rfl, h1⟩
theorem seen2 {M : Addr → Prop} {H : Hp} {xs : List V} {t u : T} (h : SeenAll E M H xs [t, u]) : ∃ x y, xs = [x, y] ∧ Seen E M H x t ∧ Seen E M H y u := by
  cases h with
  | cons h1 h2 =>
    cases h2 with
    | cons h3 h4 => cases h4; exact ⟨_, _, rfl, h1, h3⟩
def oLen : ON := fun ts => match ts with
  | [.lst us] => some (.val (.int us.length))
  | [.tup us] => some (.val (.int us.length))
  | [.scr us] => some (.val (.int us.length))
  | [.str x] => if lineOk x.length = true then some (.val (.int x.length)) else none
  | _ => none
theorem ok_len [ex : EX X E] : OkC E (fun xs H Q => ∃ x n, xs = [x] ∧ LenV X.K x H n ∧ Q (.int n) H) oLen := fun M H xs ts s Q k hs ho c => by
  unfold oLen at ho
  split at ho
  · cases ho
    obtain ⟨x, rfl, r⟩ := seen1 hs
    obtain ⟨a, xs, rfl, r1, r2⟩ := r.lst
    exact ⟨_, _, rfl, .inl ⟨xs, .inl r1, rfl⟩, c _ _ (res_v (by rw [r2.len]; exact .int _))⟩
  · cases ho
    obtain ⟨x, rfl, r⟩ := seen1 hs
    obtain ⟨a, xs, rfl, r1, r2⟩ := r.tup
    exact ⟨_, _, rfl, .inr ⟨xs, EX.t r1, rfl⟩, c _ _ (res_v (by rw [r2.len]; exact .int _))⟩
  · cases ho
    obtain ⟨x, rfl, r⟩ := seen1 hs
    obtain ⟨a, xs, rfl, r1, r2⟩ := r.scr
    exact ⟨_, _, rfl, .inl ⟨xs, sql_k r1, rfl⟩, c _ _ (res_v (by rw [r2.len]; exact .int _))⟩
  · obtain ⟨h1, h2⟩ := ite_some' ho
    subst h2
    obtain ⟨x, rfl, r⟩ := seen1 hs
    cases r.str
    exact ⟨_, _, rfl, ⟨lineOk_le h1, rfl⟩, c _ _ (res_v (.int _))⟩
  · cases ho
def oI1 (f : Int → Int) : ON := fun ts => match ts with
  | [.int i] => some (.val (.int (f i)))
  | _ => none
def oAbs : ON := oI1 fun i => if i < 0 then -i else i
theorem ok_abs : OkC E (fun xs H Q => ∃ i, xs = [.int i] ∧ Q (.int (if i < 0 then -i else i)) H) oAbs := fun M H xs ts s Q k hs ho c => by
  unfold oAbs oI1 at ho
  split at ho
  · cases ho
    obtain ⟨x, rfl, r⟩ := seen1 hs
    cases r.int
    exact ⟨_, rfl, c _ _ (res_v (.int _))⟩
  · cases ho
def oInt : ON := fun ts => match ts with
  | [.int i] => some (.val (.int i))
  | [.bl b] => some (.val (.int (if b then 1 else 0)))
  | _ => none
theorem ok_int : OkC E (fun xs H Q => (∃ i, xs = [.int i] ∧ Q (.int i) H) ∨ ∃ k, xs = [.bl k] ∧ Q (.int (if k then 1 else 0)) H) oInt := fun M H xs ts s Q k hs ho c => by
  unfold oInt at ho
  split at ho
  · cases ho
    obtain ⟨x, rfl, r⟩ := seen1 hs
    cases r.int
    exact .inl ⟨_, rfl, c _ _ (res_v (.int _))⟩
  · cases ho
    obtain ⟨x, rfl, r⟩ := seen1 hs
    cases r.bl
    exact .inr ⟨_, rfl, c _ _ (res_v (.int _))⟩
  · cases ho
def oI2 (f : Int → Int → Int) : ON := fun ts => match ts with
  | [.int i, .int j] => some (.val (.int (f i j)))
  | _ => none
def oMax2 : ON := oI2 fun i j => if j > i then j else i
def oMin2 : ON := oI2 fun i j => if j < i then j else i
theorem ok_max2 : OkC E (fun xs H Q => ∃ i j, xs = [.int i, .int j] ∧ Q (.int (if j > i then j else i)) H) oMax2 := fun M H xs ts s Q k hs ho c => by
  unfold oMax2 oI2 at ho
  split at ho
  · cases ho
    obtain ⟨x, y, rfl, r, r'⟩ := seen2 hs
    cases r.int; cases r'.int
    exact ⟨_, _, rfl, c _ _ (res_v (.int _))⟩
  · cases ho
theorem ok_min2 : OkC E (fun xs H Q => ∃ i j, xs = [.int i, .int j] ∧ Q (.int (if j < i then j else i)) H) oMin2 := fun M H xs ts s Q k hs ho c => by
  unfold oMin2 oI2 at ho
  split at ho
  · cases ho
    obtain ⟨x, y, rfl, r, r'⟩ := seen2 hs
    cases r.int; cases r'.int
    exact ⟨_, _, rfl, c _ _ (res_v (.int _))⟩
  · cases ho
def oRng2 : ON := fun ts => match ts with
  | [.int i, .int j] => some (.val (.rng i j))
  | _ => none
theorem ok_rng2 : OkC E (fun vs H Q => ∃ i j, vs = [V.int i, V.int j] ∧ ∀ p, H p = none → Q (.ref p) (upd H p (.rng i j))) oRng2 := fun M H xs ts s Q k hs ho c => by
  unfold oRng2 at ho
  split at ho
  · cases ho
    obtain ⟨x, y, rfl, r, r'⟩ := seen2 hs
    cases r.int; cases r'.int
    exact ⟨_, _, rfl, fun p hp => c _ _ ⟨same_new hp, .rng (fun z => k p z hp) upd_same⟩⟩
  · cases ho
def oTup : ON := fun ts => match ts with
  | [.lst us] => some (.val (.tup us))
  | [.tup us] => some (.val (.tup us))
  | _ => none
theorem ok_tup [EX X E] : OkC E (fun xs H Q => ∃ p ys, xs = [.ref p] ∧ ((SqL X.K H p ys ∧ ∀ l, H l = none → Q (.ref l) (upd H l (.tup ys))) ∨ (SqT X.K H p ys ∧ Q (.ref p) H))) oTup := fun M H xs ts s Q k hs ho c => by
  unfold oTup at ho
  split at ho
  · cases ho
    obtain ⟨x, rfl, r⟩ := seen1 hs
    obtain ⟨a, xs, rfl, r1, r2⟩ := r.lst
    exact ⟨a, xs, rfl, .inl ⟨.inl r1, fun l hl => c _ _ (res_t k hl r2)⟩⟩
  · cases ho
    obtain ⟨x, rfl, r⟩ := seen1 hs
    obtain ⟨a, xs, rfl, r1, r2⟩ := r.tup
    exact ⟨a, xs, rfl, .inr ⟨EX.t r1, c _ _ (res_v r.repT)⟩⟩
  · cases ho
def oLst : ON := fun ts => match ts with
  | [.lst us] => some (.own (.lst us))
  | [.tup us] => some (.own (.lst us))
  | _ => none
theorem ok_lst [EX X E] : OkC E (fun xs H Q => ∃ p ys, xs = [.ref p] ∧ (SqL X.K H p ys ∨ SqT X.K H p ys) ∧ ∀ l, H l = none → Q (.ref l) (upd H l (.lst ys))) oLst := fun M H xs ts s Q k hs ho c => by
  unfold oLst at ho
  split at ho
  · cases ho
    obtain ⟨x, rfl, r⟩ := seen1 hs
    obtain ⟨a, xs, rfl, r1, r2⟩ := r.lst
    exact ⟨a, xs, rfl, .inl (.inl r1), fun l hl => c _ _ (res_l hl r2)⟩
  · cases ho
    obtain ⟨x, rfl, r⟩ := seen1 hs
    obtain ⟨a, xs, rfl, r1, r2⟩ := r.tup
    exact ⟨a, xs, rfl, .inr (EX.t r1), fun l hl => c _ _ (res_l hl r2)⟩
  · cases ho
def bools : List T → Option (List Bool)
  | [] => some []
  | .bl b :: ts => (bools ts).map (b :: ·)
  | _ => none
theorem bools_eq : ∀ {ts : List T} {bs : List Bool}, bools ts = some bs → ts = bs.map .bl
  | [], bs, h => by cases h; rfl
  | t :: ts, bs, h => by
    cases t with
    | bl b =>
      obtain ⟨bs1, h1, rfl⟩ := Option.map_eq_some_iff.mp h
      rw [bools_eq h1]; rfl
    | _ => cases h
def oAll : ON := fun ts => match ts with
  | [.lst us] => (bools us).map fun bs => .val (.bl (bs.all id))
  | _ => none
def oAny : ON := fun ts => match ts with
  | [.lst us] => (bools us).map fun bs => .val (.bl (bs.any id))
  | _ => none
theorem ok_all : OkC E (rAll X.K) oAll := fun M H xs ts s Q k hs ho c => by
  unfold oAll at ho
  split at ho
  · obtain ⟨bs, h1, rfl⟩ := Option.map_eq_some_iff.mp ho
    obtain ⟨x, rfl, r⟩ := seen1 hs
    obtain ⟨a, xs, rfl, r1, r2⟩ := r.lst
    rw [bools_eq h1] at r2
    rw [RepAll.bls r2] at r1
    exact ⟨a, bs, rfl, .inl r1, c _ _ (res_v (.bl _))⟩
  · cases ho
theorem ok_any : OkC E (rAny X.K) oAny := fun M H xs ts s Q k hs ho c => by
  unfold oAny at ho
  split at ho
  · obtain ⟨bs, h1, rfl⟩ := Option.map_eq_some_iff.mp ho
    obtain ⟨x, rfl, r⟩ := seen1 hs
    obtain ⟨a, xs, rfl, r1, r2⟩ := r.lst
    rw [bools_eq h1] at r2
    rw [RepAll.bls r2] at r1
    exact ⟨a, bs, rfl, .inl r1, c _ _ (res_v (.bl _))⟩
  · cases ho
end
end Fn
set_option Elab.async false
set_option linter.all false
set_option maxRecDepth 100000
set_option maxHeartbeats 4000000
/-! own layer, data: fields, methods of lists, isinstance, a def by its body -/
namespace Fn
open PySem PySem.Spec PyProof.Rows L2 Rw
/-! fields -/
def lookT (f : Str) : List Str → List T → Option T
  | n :: ns, t :: ts => if (n == f) = true then some t else lookT f ns ts
  | _, _ => none
def putN (f : Str) : List Str → List Str
  | [] => [f]
  | n :: ns => if (n == f) = true then f :: ns else n :: putN f ns
def putT (f : Str) (t : T) : List Str → List T → List T
  | n :: ns, u :: ts => if (n == f) = true then t :: ts else u :: putT f t ns ts
  | _, _ => [t]
theorem look_rep {E : Ev} {M : Addr → Prop} {H : Hp} {f : Str} : ∀ {fs : List (Str × V)} {ts : List T} {t : T}, RepAll E M H (fs.map (·.2)) ts → lookT f (fs.map (·.1)) ts = some t → ∃ v, fs.lookup f = some v ∧ Rep E M H v t
  | [], _, _, _, h => by cases h
  | (n, v) :: fs, _, t, .cons h1 h2, h => by
    unfold lookT at h
    simp only [List.map_cons] at h
    rw [List.lookup_cons]
    by_cases e : n = f
    · subst e
      rw [if_pos (by simp)] at h
      cases h
      exact ⟨v, by simp, h1⟩
    · rw [if_neg (by simpa using e)] at h
      have : (f == n) = false := by simpa using fun z => e z.symm
      rw [this]
      exact look_rep h2 h
theorem put_rep {E : Ev} {M : Addr → Prop} {H : Hp} {f : Str} {v : V} {t : T} (hv : Rep E M H v t) : ∀ {fs : List (Str × V)} {ts : List T}, RepAll E M H (fs.map (·.2)) ts → (putF f v fs).map (·.1) = putN f (fs.map (·.1)) ∧ RepAll E M H ((putF f v fs).map (·.2)) (putT f t (fs.map (·.1)) ts)
  | [], _, .nil => ⟨rfl, .cons hv .nil⟩
  | (n, w) :: fs, u :: ts, .cons h1 h2 => by
    unfold putF putN putT
    by_cases e : n = f
    · subst e
      simp only [List.map_cons, beq_self_eq_true, if_true]
      exact ⟨by simp, .cons hv h2⟩
    · have e' : (n == f) = false := by simpa using e
      simp only [List.map_cons, e', if_neg e, Bool.false_eq_true, if_false]
      obtain ⟨h3, h4⟩ := put_rep hv h2
      exact ⟨by simp [h3], .cons h1 h4⟩
/-- an attribute of instances of these classes -/
def fFld (cs : List Str) (f : Str) (g : EF) : EF := fun z => (g z).bind fun z1 => match pp z1 with
  | some (.obj c ns ts, z2) => if cs.contains c = true then (lookT f ns ts).map fun t => ⟨z2.l, .val t :: z2.k⟩ else none
  | _ => none
def NoAt (K : PySem.W.Frag) (E : Ev) (cs : List Str) (f : Str) : Prop := ∀ c ∈ cs, Cls K (E.cl c) ∧ NoAttr K (E.cl c) f
section
variable {X : Cx} {E : Ev} {e a b c o value : Expr} {es : List Expr} {pos pos' p2 : Pos} {f g h : EF} {x : Str} {cs : List Str}
theorem ed_fld (hn : NoAt X.K E cs x) (ho : ED X E o g) (hb : attributeBase o x X.env (eval o X.env) = eval o X.env := by rfl) : ED X E (.Attribute o x pos) (fFld cs x g) := ⟨pe_imp (pe_fld ho.pe hb) fun σ H Q ⟨R, zs, z, z', er, q, c⟩ => by
  obtain ⟨z1, q1, q2⟩ := Option.bind_eq_some_iff.mp q
  split at q2
  · rename_i cn ns ts z2 hp
    obtain ⟨q3, q4⟩ := ite_n q2
    obtain ⟨t, q5, q6⟩ := Option.map_eq_some_iff.mp q4
    cases q6
    refine ⟨R, zs, z, z1, er, q1, fun v H1 e1 => ?_⟩
    obtain ⟨w, h1, e2, r⟩ := e1.pp hp
    cases h1
    obtain ⟨a, dx, fs, rfl, ha, rfl, hr⟩ := r.obj
    obtain ⟨v, hv1, hv2⟩ := look_rep hr q5
    obtain ⟨k1, k2⟩ := hn cn (by simpa using q3)
    exact ⟨a, _, dx, fs, v, rfl, ha, k1, k2, hv1, c _ _ (ER.pval (l := z2.l) (k := z2.k) e2 hv2)⟩
  · cases q2⟩
/-- o.x = value: o a local of one's own -/
def sSetF (cs : List Str) (x : Str) (fv fo : EF) : SF := fun z => (fv z).bind fun z1 => (fo z1).bind fun z2 => match z2.k with
  | .ali j :: k => (fz ⟨z2.l, k⟩).bind fun y => match y.2.l[j]? with
    | some s => match s.own? with
      | some (.obj c ns ts) => if (cs.contains c && Nat.blt ns.length 1000) = true then some (.nx ⟨y.2.l.set j (tl1 s (.obj c (putN x ns) (putT x y.1 ns ts))), y.2.k⟩) else none
      | _ => none
    | none => none
  | _ => none
theorem sd_setF (hn : NoAt X.K E cs x) (hv : ED X E value f) (ho : ED X E o g) (hs : swapsWith value (some (.Attribute o x pos')) pos.line X.env = pure false := by rfl) : SD X E (.Assign [.Attribute o x pos'] value pos) (sSetF cs x f g) := ⟨ps_imp (ps_fld ho.pe hv.pe hs) fun D σ H ⟨R, zs, z, fl, er, q, c⟩ => by
  obtain ⟨z1, q1, q2⟩ := Option.bind_eq_some_iff.mp q
  obtain ⟨⟨l, k0⟩, q3, q4⟩ := Option.bind_eq_some_iff.mp q2
  dsimp only at q4
  split at q4
  · rename_i j k
    obtain ⟨⟨t, l2, k2⟩, q5, q6⟩ := Option.bind_eq_some_iff.mp q4
    dsimp only at q6
    split at q6
    · rename_i s hs
      split at q6
      · rename_i cn ns ts hso
        obtain ⟨q7, q8⟩ := ite_some' q6
        subst q8
        rw [Bool.and_eq_true] at q7
        refine ⟨R, zs, z, z1, er, q1, fun v H1 e1 => ⟨R, _, z1, _, e1, q3, fun w H2 e2 => ?_⟩⟩
        have e3 := ER.pop (l := l) (k := k) e2
        obtain ⟨v', h1, e4, rv⟩ := e3.fz q5
        cases h1
        obtain ⟨ha, _⟩ := e2.al (some w) j (List.mem_cons_self)
        obtain ⟨a, hj, ow, wr⟩ := e4.wrl hs hso
        rw [ha] at hj
        cases hj
        obtain ⟨o', ho1, dx, fs, rfl, rfl, hr⟩ := ow
        obtain ⟨k1, k3⟩ := hn cn (by simpa using q7.1)
        have hlen : fs.length < 1000 := by
          have := Nat.le_of_ble_eq_true q7.2
          simp at this
          omega
        refine ⟨a, _, dx, fs, rfl, ho1, k1, k3, hlen, ?_⟩
        obtain ⟨p1, p3⟩ := put_rep rv hr
        exact c σ _ (wr _ _ ⟨dx, _, rfl, p1, p3⟩)
      · cases q6
    · cases q6
  · cases q4⟩
/-! methods of lists -/
abbrev LO := List T → List T → Option (List T × T)
/-- a method by what it does to the items -/
def OkL (E : Ev) (r : V → List V → Hp → VK → Prop) (op : LO) : Prop := ∀ (M : Addr → Prop) (H : Hp) a xs vs us ts us' t Q, H a = some (.lst xs) → RepAll E M H xs us → RepAll E M H vs ts → op us ts = some (us', t) → (∀ xs' v, RepAll E M H xs' us' → Rep E M H v t → Q v (upd H a (.lst xs'))) → r (.ref a) vs H Q
def isL (z : Z) : Bool := match pp z with
  | some (.lst _, _) => true
  | _ => false
def lmEnd (op : LO) (ts : List T) (z : Z) : Option Z := match z.k with
  | .ali j :: k => match z.l[j]? with
    | some s => match s.own? with
      | some (.lst us) => (op us ts).map fun x => ⟨z.l.set j (tl1 s (.lst x.1)), .val x.2 :: k⟩
      | _ => none
    | none => none
  | _ => none
def fLm (n : Nat) (op : LO) (fo g : EF) : EF := fun z => (fo z).bind fun z1 => if isL z1 = true then (g z1).bind fun z2 => (fzN n z2).bind fun x => lmEnd op x.1 x.2 else none
theorem lm_end {R : Rc} {σ zs : List (Option V)} {H : Hp} {r : V → List V → Hp → VK → Prop} {op : LO} (ho : OkL E r op) {z z' : Z} {ts : List T} {vs : List V} {v : V} {Q : VK} (er : ER E R σ (some v :: zs) H z) (hr : RepAll E (Mz R σ (some v :: zs) z) H vs ts) (q : lmEnd op ts z = some z') (c : ∀ v H', ER E R σ (some v :: zs) H' z' → Q v H') : r v vs H Q := by
  obtain ⟨l, k0⟩ := z
  unfold lmEnd at q
  dsimp only at q
  split at q
  · rename_i j k
    split at q
    · rename_i s hs
      split at q
      · rename_i us hso
        obtain ⟨⟨us', t⟩, q1, q2⟩ := Option.map_eq_some_iff.mp q
        cases q2
        obtain ⟨ha, _⟩ := er.al (some v) j List.mem_cons_self
        have e1 := er.pop
        have hm : ∀ a, Mz R σ (some v :: zs) ⟨l, .ali j :: k⟩ a ↔ Mz R σ zs ⟨l, k⟩ a := fun a => ⟨fun z => (mx_un (x := (some v, Sl.ali j)) rfl a).mp ((mx_perm (pz_push _ _).symm a).mp z), fun z => mz_pop a z⟩
        obtain ⟨a, hj, ow, wr⟩ := e1.wrl hs hso
        rw [ha] at hj
        cases hj
        obtain ⟨o', ho1, xs, rfl, hxs⟩ := ow
        have hr' := hr.an (M' := Mz R σ zs ⟨l, k⟩) fun a z => (hm a).mpr z
        refine ho _ H a xs vs us ts us' t Q ho1 hxs hr' q1 fun xs' v' h1 h2 => ?_
        have e2 := wr (.lst us') (.lst xs') ⟨xs', rfl, h1⟩
        refine c _ _ (e2.pval ?_)
        have na : ¬ Mz R σ zs ⟨l, k⟩ a → False := fun n => n (.inr ⟨(some (.ref a), s), List.mem_append_left _ (List.mem_iff_getElem?.mpr ⟨j, List.getElem?_zip_eq_some.mpr ⟨ha, hs⟩⟩), ⟨_, hso⟩, rfl⟩)
        refine Rep.mv (fun b o eb mb => ⟨?_, fun z => mb ?_⟩) _ _ h2
        · rw [upd_ne fun z => by rw [z] at mb; exact na mb]; exact eb
        · have hjl := (List.getElem?_eq_some_iff.mp hs).1
          have P := pz_loc (zs := zs) (k := k) (w := some (V.ref a)) ha hs
          have P' := pz_set1 (zs := zs) (k := k) (w := some (V.ref a)) (s' := tl1 s (.lst us')) ha hs
          have z1 := (mx_perm P' b).mp z
          refine (mx_perm P b).mpr ?_
          rcases (mx_cons b).mp z1 with ⟨_, zz⟩ | zz
          · exact (mx_cons b).mpr (.inl ⟨⟨_, hso⟩, zz⟩)
          · exact mx_tail zz
      · cases q
    · cases q
  · cases q
theorem isL_ty [EX X E] {R : Rc} {σ zs : List (Option V)} {H : Hp} {z : Z} {v : V} (er : ER E R σ (some v :: zs) H z) (h : isL z = true) : tyV X.K "list" v H := by
  unfold isL at h
  split at h
  · rename_i ts z1 hp
    obtain ⟨w, h1, r⟩ := er.top hp
    cases h1
    obtain ⟨a, xs, rfl, r1, _⟩ := r.lst
    exact .inl ⟨rfl, xs, .inl r1⟩
  · cases h
theorem ed_lm [EX X E] {r : V → List V → Hp → VK → Prop} {op : LO} (hq : ∀ {to : TE} {t : TA}, PE X o to → PA X es t → PE X e (tBM X.K "list" r to t)) (hop : OkL E r op) (ho : ED X E o f) (ha : AD X E es g) : ED X E e (fLm es.length op f g) := ⟨pe_imp (hq ho.pe ha.pa) fun σ H Q ⟨R, zs, z, z', er, q, c⟩ => by
  obtain ⟨z1, q1, q2⟩ := Option.bind_eq_some_iff.mp q
  obtain ⟨q3, q4⟩ := ite_n q2
  obtain ⟨z2, q5, q6⟩ := Option.bind_eq_some_iff.mp q4
  obtain ⟨⟨ts, z3⟩, q7, q8⟩ := Option.bind_eq_some_iff.mp q6
  refine ⟨R, zs, z, z1, er, q1, fun x H1 e1 => ⟨isL_ty e1 q3, R, _, z1, z2, e1, q5, fun vs H2 hl e2 => ?_⟩⟩
  obtain ⟨e3, hr⟩ := e2.fzA hl q7
  exact lm_end hop e3 hr q8 c⟩
theorem ed_lm0 [EX X E] {r : V → List V → Hp → VK → Prop} {op : LO} (hq : ∀ {to : TE}, PE X o to → PE X e (tBM0 X.K "list" r to)) (hop : OkL E r op) (ho : ED X E o f) : ED X E e (fLm 0 op f f0) := ⟨pe_imp (hq ho.pe) fun σ H Q ⟨R, zs, z, z', er, q, c⟩ => by
  obtain ⟨z1, q1, q2⟩ := Option.bind_eq_some_iff.mp q
  obtain ⟨q3, q4⟩ := ite_n q2
  obtain ⟨z2, q5, q6⟩ := Option.bind_eq_some_iff.mp q4
  cases q5
  obtain ⟨⟨ts, z3⟩, q7, q8⟩ := Option.bind_eq_some_iff.mp q6
  cases q7
  exact ⟨R, zs, z, z1, er, q1, fun x H1 e1 => ⟨isL_ty e1 q3, lm_end hop e1 .nil q8 c⟩⟩⟩
def lApp : LO := fun us ts => match ts with
  | [t] => if Nat.blt us.length sizeLine = true then some (us ++ [t], .non) else none
  | _ => none
theorem okl_app : OkL E rAppend lApp := fun M H a xs vs us ts us' t Q ha hx hv ho c => by
  unfold lApp at ho
  split at ho
  · obtain ⟨h1, h2⟩ := ite_some' ho
    cases h2
    cases hv with
    | cons h3 h4 =>
      cases h4
      exact ⟨a, xs, _, rfl, rfl, ha, by rw [hx.len]; exact Nat.le_of_ble_eq_true h1, c _ _ (hx.app (.cons h3 .nil)) .non⟩
  · cases ho
def lPop0 : LO := fun us ts => match ts with
  | [] => (us[us.length - 1]?).map fun t => (us.dropLast, t)
  | _ => none
def lPop1 : LO := fun us ts => match ts with
  | [.int i] => if inRng i = true then (seqIndex? i us.length).bind fun j => (us[j]?).map fun t => (us.eraseIdx j, t) else none
  | _ => none
theorem dropLast_rep {M : Addr → Prop} {H : Hp} {xs : List V} {us : List T} (h : RepAll E M H xs us) : RepAll E M H xs.dropLast us.dropLast := by
  rw [List.dropLast_eq_take, List.dropLast_eq_take, h.len]
  exact RepAll.take _ h
theorem okl_pop0 : OkL E rPop lPop0 := fun M H a xs vs us ts us' t Q ha hx hv ho c => by
  unfold lPop0 at ho
  split at ho
  · obtain ⟨t', h1, h2⟩ := Option.map_eq_some_iff.mp ho
    cases h2
    cases hv
    obtain ⟨v, h3, h4⟩ := hx.at_ h1
    exact ⟨a, xs, v, rfl, rfl, ha, by rw [hx.len]; exact h3, c _ _ (dropLast_rep hx) h4⟩
  · cases ho
theorem okl_pop1 : OkL E rPopAt lPop1 := fun M H a xs vs us ts us' t Q ha hx hv ho c => by
  unfold lPop1 at ho
  split at ho
  · obtain ⟨h0, h1⟩ := ite_n ho
    obtain ⟨j, h2, h3⟩ := Option.bind_eq_some_iff.mp h1
    obtain ⟨t', h4, h5⟩ := Option.map_eq_some_iff.mp h3
    cases h5
    cases hv with
    | cons r1 r2 =>
      cases r2
      cases r1
      obtain ⟨v, h6, h7⟩ := hx.at_ h4
      have := inRng_ok h0
      exact ⟨a, xs, _, j, v, rfl, rfl, ha, by omega, by omega, by rw [hx.len]; exact h2, h6, c _ _ (hx.erase j) h7⟩
  · cases ho
end
/-! isinstance of built-in classes -/
def T.ty : T → Option String
  | .non => some "NoneType"
  | .bl _ => some "bool"
  | .int _ => some "int"
  | .str _ => some "str"
  | .tup _ => some "tuple"
  | .lst _ => some "list"
  | .scr _ => some "list"
  | _ => none
theorem Rep.tyx {E : Ev} {K : PySem.W.Frag} {M : Addr → Prop} {H : Hp} {t : T} {v : V} {n : String} (hK : E.K = K) (h : Rep E M H v t) (e : t.ty = some n) : TyX K H v (.type n) := by
  subst hK
  cases h <;> first | (cases e; fail) | skip
  case non => cases e; exact .base .non
  case bl => cases e; exact .base (.bl _)
  case int => cases e; exact .base (.int _)
  case str => cases e; exact .base (.str _)
  case tup h1 h2 h3 =>
    cases e
    rcases h2 with h2 | ⟨o, h2⟩
    · exact .base (.tup h2)
    · exact .fTuple h2
  case ktup h1 h2 => cases e; obtain ⟨o, _, _, h3, h4, _⟩ := h1; exact .kTuple h3 h4
  case lst h1 h2 h3 => cases e; exact .base (.lst h2)
  case scr h1 h2 h3 => cases e; exact .base (.frz h2)
  case kscr h1 h2 => cases e; obtain ⟨o, _, _, h3, h4, _⟩ := h1; exact .kList h3 h4
  all_goals cases e
theorem Seen.tyx {X : Cx} {E : Ev} [ex : EX X E] {M : Addr → Prop} {H : Hp} {t : T} {v : V} {n : String} (h : Seen E M H v t) (e : t.ty = some n) : TyX X.K H v (.type n) := Rep.tyx ex.k h.rep0 e
section
variable {X : Cx} {E : Ev} [EX X E] {e a b c o : Expr} {es : List Expr} {pos pos' p2 : Pos} {f g h : EF}
def fIsi (c : String) (f : EF) : EF := fun z => (f z).bind fun z1 => (pp z1).bind fun x => x.1.ty.bind fun n => (kitB n c).map fun r => ⟨x.2.l, .val (.bl r) :: x.2.k⟩
theorem ed_isi {n : String} (hq : ∀ {t : TA}, PA X [a, b] t → PE X e (tCB (rIsi X.K) t)) (ha : ED X E a f) (hb : PE X b (tC (.ty n))) (h2 : starEach [a, b] X.env = (false, eval a X.env) :: starEach [b] X.env := by rfl) (h3 : starEach [b] X.env = (false, eval b X.env) :: starEach [] X.env := by rfl) : ED X E e (fIsi n f) := ⟨pe_imp (hq (pa_cons ha.pe (pa_cons hb pa_nil h3) h2)) fun σ H Q ⟨R, zs, z, z', er, q, c⟩ => by
  obtain ⟨z1, q1, q2⟩ := Option.bind_eq_some_iff.mp q
  obtain ⟨⟨t, z2⟩, q3, q4⟩ := Option.bind_eq_some_iff.mp q2
  obtain ⟨m, q5, q6⟩ := Option.bind_eq_some_iff.mp q4
  obtain ⟨r, q7, q8⟩ := Option.map_eq_some_iff.mp q6
  cases q8
  refine ⟨R, zs, z, z1, er, q1, fun v H1 e1 => ?_⟩
  obtain ⟨w, h1, e2, rv⟩ := e1.pp q3
  cases h1
  exact ⟨v, _, _, _, r, rfl, .ty n, rv.tyx q5, kit_ty q7, c _ _ (ER.pval (l := z2.l) (k := z2.k) e2 (.bl _))⟩⟩
def fIsi2 (c1 c2 : String) (f : EF) : EF := fun z => (f z).bind fun z1 => (pp z1).bind fun x => x.1.ty.bind fun n => (kitB n c1).bind fun r1 => (kitB n c2).map fun r2 => ⟨x.2.l, .val (.bl (r1 || r2)) :: x.2.k⟩
theorem kit_two {K : PySem.W.Frag} {n c1 c2 : String} {r1 r2 : Bool} (h1 : kitB n c1 = some r1) (h2 : kitB n c2 = some r2) : PySem.W.kitAny K (.type n) [.type c1, .type c2] = some (r1 || r2) :=
  kitAny_cons (kit_ty h1) (fun e => by rw [e, Bool.false_or]; exact kitAny_cons (kit_ty h2) (fun e => by rw [e]; rfl) fun e => e) fun e => by rw [e]; rfl
theorem ed_isi2 {n1 n2 : String} {x1} {d1 d2 : Expr} (hq : ∀ {t : TA}, PA X [a, .Tuple [d1, d2] x1 p2] t → PE X e (tCB (rIsiT X.K) t)) (ha : ED X E a f) (hb : PE X d1 (tC (.ty n1))) (hc : PE X d2 (tC (.ty n2)))
    (h2 : starEach [a, .Tuple [d1, d2] x1 p2] X.env = (false, eval a X.env) :: starEach [.Tuple [d1, d2] x1 p2] X.env := by rfl) (h3 : starEach [.Tuple [d1, d2] x1 p2] X.env = (false, eval (.Tuple [d1, d2] x1 p2) X.env) :: starEach [] X.env := by rfl)
    (h4 : starEach [d1, d2] X.env = (false, eval d1 X.env) :: starEach [d2] X.env := by rfl) (h5 : starEach [d2] X.env = (false, eval d2 X.env) :: starEach [] X.env := by rfl) : ED X E e (fIsi2 n1 n2 f) := ⟨pe_imp (hq (pa_cons ha.pe (pa_cons (pe_tup (pa_cons hb (pa_cons hc pa_nil h5) h4)) pa_nil h3) h2)) fun σ H Q ⟨R, zs, z, z', er, q, c⟩ => by
  obtain ⟨z1, q1, q2⟩ := Option.bind_eq_some_iff.mp q
  obtain ⟨⟨t, z2⟩, q3, q4⟩ := Option.bind_eq_some_iff.mp q2
  obtain ⟨m, q5, q6⟩ := Option.bind_eq_some_iff.mp q4
  obtain ⟨r1, q7, q8⟩ := Option.bind_eq_some_iff.mp q6
  obtain ⟨r2, q9, q10⟩ := Option.map_eq_some_iff.mp q8
  cases q10
  refine ⟨R, zs, z, z1, er, q1, fun v H1 e1 => ⟨by show 2 ≤ sizeLine; rw [sizeLine_eq]; omega, fun p hp => ?_⟩⟩
  obtain ⟨w, h1, e2, rv⟩ := e1.pp q3
  cases h1
  have s := same_new (o := .tup [.ty n1, .ty n2]) hp
  exact ⟨v, p, _, _, _, r1 || r2, rfl, upd_same, .cons (.ty n1) (.cons (.ty n2) .nil), (rv.same s).tyx q5, kit_two q7 q9, c _ _ (ER.pval (l := z2.l) (k := z2.k) (e2.same s) (.bl _))⟩⟩
end
end Fn
set_option Elab.async false
set_option linter.all false
set_option maxRecDepth 100000
set_option maxHeartbeats 4000000
/-! own layer, data: a def by its body -/
namespace Fn
open PySem PySem.Spec PyProof.Rows L2 Rw
/-- what comes at a return: the locals, the slot -/
def rv : Z → Option (List Sl × Sl)
  | ⟨l, s :: _⟩ => match s with
    | .val t => some (l, .val t)
    | .own t => some (l, .own t)
    | .ali j => match l[j]? with
      | some (.own t) => some (l.set j .no, .own t)
      | some (.val t) => some (l, .val t)
      | _ => none
    | _ => none
  | _ => none
def outs (n : Nat) (l : List Sl) : List Sl := (l.take n).map ioOf
/-- a def of n parameters, m other names -/
def runF (n m : Nat) (s : SF) : FT := fun args => match s ⟨args ++ List.replicate m .no, []⟩ with
  | some (.rt z) => if Nat.ble n z.l.length = true then (rv z).map fun x => (outs n x.1, x.2) else none
  | some (.nx z) => if Nat.ble n z.l.length = true then some (outs n z.l, .val .non) else none
  | _ => none
section
variable {E : Ev} {FB M0 : Addr → Prop} {H0 H : Hp}
theorem no_pairs {R : Rc} : ∀ (m : Nat) {P : List Pr2}, Good E R H P → Good E R H (P ++ (List.replicate m none).zip (List.replicate m Sl.no))
  | 0, P, g => by simpa using g
  | m + 1, P, g => by
    have := (no_pairs m g).more (x := (none, Sl.no)) rfl fun _ q => nomatch q
    exact this.perm List.perm_middle.symm
/-- the parameters behind the def: what is the caller's -/
theorem out_good {R : Rc} {σ : List (Option V)} {l : List Sl} {vs : List V} {x : Pr2} (g : Good E R H (x :: σ.zip l)) (hl : σ.length = l.length) (hn : vs.length ≤ l.length) (io : ∀ (i : Nat) (t : T) (v : V), l[i]? = some (.io t) → vs[i]? = some v → σ[i]? = some (some v)) : Good E R H (x :: (vs.map some).zip (outs vs.length l)) := by
  have g1 : Good E R H ((x :: (σ.zip l).take vs.length) ++ (σ.zip l).drop vs.length) := by
    rw [List.cons_append, List.take_append_drop]; exact g
  refine g1.pre.wk (.cons (.inl rfl) ?_)
  have tz : ∀ {α β : Type} (n : Nat) (xs : List α) (ys : List β), (xs.zip ys).take n = (xs.take n).zip (ys.take n) := fun {α β} n xs => by
    induction n generalizing xs with
    | zero => intro ys; rfl
    | succ n ih =>
      intro ys
      cases xs with
      | nil => simp
      | cons x xs =>
        cases ys with
        | nil => simp
        | cons y ys => simp [ih]
  have e : (σ.zip l).take vs.length = (σ.take vs.length).zip (l.take vs.length) := tz _ _ _
  rw [e]
  refine paired_of ?_ fun i y z hy hz => ?_
  · unfold outs; simp; omega
  · obtain ⟨h1, h2⟩ := List.getElem?_zip_eq_some.mp hy
    obtain ⟨h3, h4⟩ := List.getElem?_zip_eq_some.mp hz
    obtain ⟨y1, y2⟩ := y
    obtain ⟨z1, z2⟩ := z
    dsimp only at h1 h2 h3 h4
    rw [List.getElem?_map] at h1
    obtain ⟨v, h5, rfl⟩ := Option.map_eq_some_iff.mp h1
    unfold outs at h2
    rw [List.getElem?_map] at h2
    obtain ⟨s, h6, rfl⟩ := Option.map_eq_some_iff.mp h2
    rw [h6] at h4; cases h4
    have hi : i < vs.length := (List.getElem?_eq_some_iff.mp h5).1
    rw [List.getElem?_take, if_pos hi] at h6 h3
    cases z2 with
    | io t =>
      have := io i t v h6 h5
      rw [this] at h3; cases h3
      exact .inl rfl
    | _ => exact .inr rfl
theorem paired_imp {α β : Type} {F G : α → β → Prop} (h : ∀ {x y}, F x y → G x y) : ∀ {xs : List α} {ys : List β}, Paired F xs ys → Paired G xs ys
  | _, _, .nil => .nil
  | _, _, .cons r s => .cons (h r) (paired_imp h s)
theorem len_set_no {l : List Sl} {j : Nat} : (l.set j Sl.no).length = l.length := List.length_set
theorem ER.toOut {vs : List V} {m : Nat} {σ : List (Option V)} {v : V} {z : Z} {os : List Sl} {r : Sl} (er : ER E ⟨FB, M0, H0, vs.map some ++ List.replicate m none⟩ σ [some v] H z) (hz : vs.length ≤ z.l.length) (q : (rv z).map (fun x => (outs vs.length x.1, x.2)) = some (os, r)) : Good E ⟨FB, M0, H0, []⟩ H ((some v, r) :: (vs.map some).zip os) := by
  obtain ⟨⟨l', s'⟩, q1, q2⟩ := Option.map_eq_some_iff.mp q
  cases q2
  obtain ⟨l, k⟩ := z
  dsimp only at hz
  have hk : ∃ s, k = [s] := by
    have := er.lk
    match k, this with
    | [s], _ => exact ⟨s, rfl⟩
  obtain ⟨s, rfl⟩ := hk
  have hl : σ.length = l.length := er.ll
  have io : ∀ (i : Nat) (t : T) (w : V), l[i]? = some (.io t) → vs[i]? = some w → σ[i]? = some (some w) := fun i t w h1 h2 => by
    have := er.io i t h1
    rw [this]
    have hi := (List.getElem?_eq_some_iff.mp h2).1
    show (vs.map some ++ List.replicate m none)[i]? = _
    rw [List.getElem?_append_left (by simpa using hi), List.getElem?_map, h2]
    rfl
  have g0 : Good E ⟨FB, M0, H0, []⟩ H ((some v, s) :: σ.zip l) := by
    have := er.ok.perm (pz_push (σ := σ) (zs := []) (l := l) (k := []) (some v) s).symm
    exact (by simpa [Pz] using this : Good E _ H ((some v, s) :: σ.zip l)).s0
  unfold rv at q1
  cases s with
  | no => cases q1
  | io t => cases q1
  | val t => cases q1; exact out_good g0 hl hz io
  | own t => cases q1; exact out_good g0 hl hz io
  | ali j =>
    dsimp only at q1
    obtain ⟨ha, s1, hs1, _⟩ := er.al (some v) j List.mem_cons_self
    dsimp only at hs1
    rw [hs1] at q1
    cases s1 with
    | val t =>
      cases q1
      obtain ⟨w, e1, e2⟩ := g0.val (σ[j]'(List.getElem?_eq_some_iff.mp ha).1, .val t) (List.mem_cons_of_mem _ (List.mem_iff_getElem?.mpr ⟨j, List.getElem?_zip_eq_some.mpr ⟨List.getElem?_eq_getElem _, hs1⟩⟩)) t rfl
      have hv : σ[j]'(List.getElem?_eq_some_iff.mp ha).1 = some v := (List.getElem?_eq_some_iff.mp ha).2
      dsimp only at e1
      rw [hv] at e1
      cases e1
      have g1 := g0.tail.cval (v := v) (t := t) (e2.an fun a z => mx_tail z)
      exact out_good g1 hl hz io
    | own t =>
      cases q1
      have g1 : Good E ⟨FB, M0, H0, []⟩ H ((some v, .own t) :: σ.zip (l.set j .no)) := by
        have := Good.out (A := []) (B := []) (R := ⟨FB, M0, H0, []⟩) (by simpa using g0.tail) ha hs1
        simpa using this
      refine out_good g1 (by rw [List.length_set]; exact hl) (by rw [List.length_set]; exact hz) fun i t' w h1 h2 => ?_
      by_cases e : j = i
      · subst e
        rw [List.getElem?_set_self (List.getElem?_eq_some_iff.mp hs1).1] at h1
        cases h1
      · rw [List.getElem?_set_ne e] at h1
        exact io i t' w h1 h2
    | _ => cases q1
theorem ER.nxOut {vs : List V} {m : Nat} {σ : List (Option V)} {z : Z} (er : ER E ⟨FB, M0, H0, vs.map some ++ List.replicate m none⟩ σ [] H z) (hz : vs.length ≤ z.l.length) : Good E ⟨FB, M0, H0, []⟩ H ((some V.non, .val .non) :: (vs.map some).zip (outs vs.length z.l)) := by
  obtain ⟨l, k⟩ := z
  have e1 := ER.pval (l := l) (k := k) (v := V.non) (t := .non) er .non
  refine ER.toOut e1 hz ?_
  rfl
/-- the body's reading, as a def's promise -/
theorem run_start {n m : Nat} {s : SF} {vs : List V} {Q : VK} {Ex : XK} (h : spF E n (runF n m s) vs H Q Ex) : ∃ (t : TS), t = tS E s ∧ t { nx := fun _ H' => Q .non H', rt := Q } (vs.map some ++ List.replicate m none) H := by
  obtain ⟨FB, M0, ss, os, r, hn, hs, ha, g, hF, hk, c⟩ := h
  refine ⟨_, rfl, ?_⟩
  have hla : (ss.map toArg).length = vs.length := by rw [List.length_map, hs, hn]
  have er : ER E ⟨FB, M0, H, vs.map some ++ List.replicate m none⟩ (vs.map some ++ List.replicate m none) [] H ⟨ss.map toArg ++ List.replicate m Sl.no, []⟩ := by
    refine ⟨by simp [hs, hn], rfl, ?_, (fun w j m => by cases m), fun s hs => ?_, (fun s hs => by cases hs), fun i t _ => rfl⟩
    · show Good E _ H ((vs.map some ++ List.replicate m none).zip (ss.map toArg ++ List.replicate m Sl.no) ++ [])
      rw [List.zip_append (by simp [hs, hn]), List.append_nil]
      exact no_pairs m g.s0
    · rcases List.mem_append.mp hs with hs | hs
      · have := List.all_eq_true.mp ha s hs
        cases s <;> first | rfl | cases this
      · rw [(List.mem_replicate.mp hs).2]; rfl
  unfold runF at hF
  split at hF
  · rename_i z hz
    obtain ⟨h1, h2⟩ := ite_n hF
    refine ⟨_, [], _, _, er, hz, fun v σ' H' e1 => c v H' ⟨?_⟩⟩
    have e2 : ER E ⟨FB, M0, H, vs.map some ++ List.replicate m none⟩ σ' [some v] H' z := e1
    subst hn
    exact e2.toOut (Nat.le_of_ble_eq_true h1) h2
  · rename_i z hz
    obtain ⟨h1, h2⟩ := ite_some' hF
    cases h2
    refine ⟨_, [], _, _, er, hz, fun σ' H' e1 => c _ H' ⟨?_⟩⟩
    subst hn
    exact ER.nxOut e1 (Nat.le_of_ble_eq_true h1)
  · cases hF
theorem sp_len {n : Nat} {F : FT} {vs : List V} {Q : VK} {Ex : XK} (h : spF E n F vs H Q Ex) : vs.length = n := let ⟨_, _, _, _, _, h, _⟩ := h; h
theorem rep_none {n m : Nat} {N : List Str} {vs : List V} (h : vs.length = n) (hN : N.length = n + m) : L2.start N vs = vs.map some ++ List.replicate m none := by
  unfold L2.start
  rw [hN, h, Nat.add_sub_cancel_left]
/-- a def of the text keeps what its reading does -/
theorem fd_ok {P : Program} {w : World} {K : PySem.W.Frag} {mg : Str → Option Value} {base : Heap} {x ql : Str} {st : Stmt} {f : Addr} {fd : FuncData} {N ps : List Str} {k : Nat} {E : Ev} {s : SF} (F : Fun K x ql st f fd) (S : FnScope N ps (defScope st)) (m : Nat) (hm : N.length = ps.length + m)
    (hb : ∀ (cdv : Value) (A : Around) (ou : List Env) (s0 : Shared) (H : Hp) (Ex : XK), Room k (A.deeper (envOfC ql (defScope st) s0.heap.objs.size f cdv)) → BD (cxOf CX0 P w K mg base N ql (defScope st) f cdv A ou s0 H Ex).nox E (defBody st) s) :
    FnOk P w K mg base CX0 (k + 1) f fd ps (spF E ps.length (runF ps.length m s)) :=
  F.ok S (fun vs H Q Ex h => sp_len h) fun cdv A ou s0 H vs Q Ex hr h => by
    obtain ⟨t, rfl, ht⟩ := run_start h
    refine ⟨_, (hb cdv A ou s0 H Ex hr).pss, ?_⟩
    rw [rep_none (sp_len h) hm]
    exact ht
theorem fdd_ok {P : Program} {w : World} {K : PySem.W.Frag} {mg : Str → Option Value} {base : Heap} {x ql : Str} {pa : Arguments} {bo : List Stmt} {sc : Scope} {dvs : List V} {kws : List (Str × V)} {f : Addr} {fd : FuncData} {N ps : List Str} {k : Nat} {E : Ev} {s : SF} (F : FunD K x ql pa bo sc dvs kws f fd) (S : FnScope N ps sc) (m : Nat) (hm : N.length = ps.length + m)
    (hb : ∀ (cdv : Value) (A : Around) (ou : List Env) (s0 : Shared) (H : Hp) (Ex : XK), Room k (A.deeper (envOfC ql sc s0.heap.objs.size f cdv)) → BD (cxOf CX0 P w K mg base N ql sc f cdv A ou s0 H Ex).nox E bo s) :
    FnOk P w K mg base CX0 (k + 1) f fd ps (spF E ps.length (runF ps.length m s)) :=
  F.ok S (fun vs H Q Ex h => sp_len h) fun cdv A ou s0 H vs Q Ex hr h => by
    obtain ⟨t, rfl, ht⟩ := run_start h
    refine ⟨_, (hb cdv A ou s0 H Ex hr).pss.nox, ?_⟩
    rw [rep_none (sp_len h) hm]
    exact ht
end
end Fn
set_option Elab.async false
set_option linter.all false
set_option maxRecDepth 100000
set_option maxHeartbeats 4000000
/-! own layer, data: more statements, displays, sorted -/
namespace Fn
open PySem PySem.Spec PyProof.Rows L2 Rw
instance exCx {CX : CXT} {P : Program} {w : World} {K : PySem.W.Frag} {mg : Str → Option Value} {base : Heap} {N : List Str} {ql : Str} {sc : Scope} {f : Addr} {cd : Value} {A : Around} {ou : List Env} {s : Shared} {H : Hp} {Ex : XK} {cl : Str → Addr} {tb : List (Addr × Str)} {fn : Option (Addr × Hp × (Addr → Prop))} : EX (cxOf CX P w K mg base N ql sc f cd A ou s H Ex) ⟨cl, w, K, tb, fn⟩ := ⟨rfl, rfl⟩
instance exNox {X : Cx} {E : Ev} [h : EX X E] : EX X.nox E := ⟨h.k, h.w⟩
instance exBlk {X : Cx} {E : Ev} [h : EX X E] {s : Shared} {H : Hp} {sc : Scope} {env : Env} {fp : List Addr} : EX (X.blk s H sc env fp) E := ⟨h.k, h.w⟩
section
variable {X : Cx} {E : Ev} {e a b c o elt iter tg : Expr} {es : List Expr} {pos pos' p2 spos py : Pos} {f g h fe : EF} {p : TF} {st : Stmt}
/-- x = [elt for tg in iter if ..] -/
theorem sd_setLc {i : Nat} {y : Str} {is : List Nat} {fi : IF} {m : Nat} {gg : GF} {ifs : List Expr} {scope : Scope} {own : List (Str × Nat)} (hc : X.calm = true) (hN : X.N.Nodup) (hy : X.N[i]? = some y) (hyl : X.env.scope.names.lookup y = some .local)
    (hsw : swapsWith (.ListComp elt [⟨tg, iter, ifs, 0⟩] scope pos) (some (.Name y py)) spos.line X.env = pure true) (hi : ID X E tg iter fi m) (ok : BlkOk X.N X.env.scope scope own)
    (hg : ∀ (s : Shared) (H : Hp) (C : Addr) (cl : List (Str × Addr)) (fp : List Addr), GD (X.blk s H scope (compEnvC scope cl C X.env) fp) E tg is gg) (ht : ∀ (s : Shared) (H : Hp) (C : Addr) (cl : List (Str × Addr)) (fp : List Addr), TsD (X.blk s H scope (compEnvC scope cl C X.env) fp) E ifs p)
    (he : ∀ (s : Shared) (H : Hp) (C : Addr) (cl : List (Str × Addr)) (fp : List Addr), ED (X.blk s H scope (compEnvC scope cl C X.env) fp) E elt fe) (hs : ∀ i ∈ is, i ∈ own.map (·.2)) (hf : ∀ x, foldedSetIterable iter X.env x = pure x := by intro _; rfl) :
    SD X E (.Assign [.Name y py] (.ListComp elt [⟨tg, iter, ifs, 0⟩] scope pos) spos) (sPut (fLc fi m (own.map (·.2)) gg p fe) (put i)) :=
  ⟨ps_imp (ps_setLc (i := i) hc hN hy hyl hsw hi.pi ok (fun s H C cl fp => (hg s H C cl fp).pg) (fun s H C cl fp => (ht s H C cl fp).pts) (fun s H C cl fp => (he s H C cl fp).pe) hf) fun D σ H ⟨R, zs, z, fl, er, q, c⟩ => by
    obtain ⟨z2, q0, q2⟩ := Option.map_eq_some_iff.mp q
    obtain ⟨z1, q1, q3⟩ := Option.bind_eq_some_iff.mp q0
    cases q2
    exact ed_lcD hs ⟨R, zs, z, z1, er, q1, fun v H1 e1 => c _ H1 (e1.put q3)⟩⟩
/-! a op b op' c of ints -/
def fCh (o1 o2 : Int → Int → Bool) (f g h : EF) : EF := fun z => (f z).bind fun z1 => (g z1).bind fun z2 => match pp z2 with
  | some (.int j, z3) => match pp z3 with
    | some (.int i, z4) => if o1 i j = true then (h z4).bind fun z5 => match pp z5 with
        | some (.int k, z6) => some ⟨z6.l, .val (.bl (o2 j k)) :: z6.k⟩
        | _ => none
      else some ⟨z4.l, .val (.bl false) :: z4.k⟩
    | _ => none
  | _ => none
theorem ch_ok {o1 o2 : Int → Int → Bool} {σ : L2.St} {H : Hp} {Q : VK} (hh : tE E (fCh o1 o2 f g h) σ H Q) : tChain (rI0 fun i j => .bl (o1 i j)) (rI0 fun i j => .bl (o2 i j)) (tE E f) (tE E g) (tE E h) σ H Q := by
  obtain ⟨R, zs, z, z', er, q, c⟩ := hh
  obtain ⟨z1, q1, q2⟩ := Option.bind_eq_some_iff.mp q
  obtain ⟨z2, q3, q4⟩ := Option.bind_eq_some_iff.mp q2
  split at q4
  · rename_i j z3 hp
    split at q4
    · rename_i i z4 hp2
      refine ⟨R, zs, z, z1, er, q1, fun x H1 e1 => ⟨R, _, z1, z2, e1, q3, fun y H2 e2 => ?_⟩⟩
      obtain ⟨w, h1, e3, r⟩ := e2.pp hp
      cases h1; cases r.int
      obtain ⟨w, h1, e4, r⟩ := e3.pp hp2
      cases h1; cases r.int
      refine ⟨i, j, rfl, rfl, _, rfl, ?_⟩
      split at q4
      · rename_i hb
        rw [hb]
        obtain ⟨z5, q5, q6⟩ := Option.bind_eq_some_iff.mp q4
        split at q6
        · rename_i k z6 hp3
          cases q6
          refine ⟨R, _, z4, z5, e4, q5, fun u H3 e5 => ?_⟩
          obtain ⟨w, h1, e6, r⟩ := e5.pp hp3
          cases h1; cases r.int
          exact ⟨j, k, rfl, rfl, c _ _ (ER.pval (l := z6.l) (k := z6.k) e6 (.bl _))⟩
        · cases q6
      · rename_i hb
        have hb' : o1 i j = false := by simpa using hb
        rw [hb']
        cases q4
        exact c _ _ (ER.pval (l := z4.l) (k := z4.k) e4 (.bl _))
    · cases q4
  · cases q4
theorem ed_chain {o1 o2 : Int → Int → Bool} (hq : ∀ {ta tb tc : TE}, PE X a ta → PE X b tb → PE X c tc → PE X e (tChain (rI0 fun i j => .bl (o1 i j)) (rI0 fun i j => .bl (o2 i j)) ta tb tc)) (ha : ED X E a f) (hb : ED X E b g) (hc : ED X E c h) : ED X E e (fCh o1 o2 f g h) := ⟨pe_imp (hq ha.pe hb.pe hc.pe) fun σ H Q h => ch_ok h⟩
theorem td_chain {o1 o2 : Int → Int → Bool} (hq : ∀ {ta tb tc : TE}, PE X a ta → PE X b tb → PE X c tc → PT X e (tTest (tChain (rI0 fun i j => .bl (o1 i j)) (rI0 fun i j => .bl (o2 i j)) ta tb tc))) (ha : ED X E a f) (hb : ED X E b g) (hc : ED X E c h) : TD X E e (gE (fCh o1 o2 f g h)) := ⟨pt_imp (hq ha.pe hb.pe hc.pe) fun σ H Q ⟨R, zs, z, b, z', er, q, c⟩ => by
  obtain ⟨z1, q1, q2⟩ := Option.bind_eq_some_iff.mp q
  refine ch_ok ⟨R, zs, z, z1, er, q1, fun x H1 e1 => ?_⟩
  obtain ⟨h1, h2⟩ := e1.pb q2
  exact ⟨b, h1, c H1 h2⟩⟩
/-! xs[i] = v -/
def gSubL (fo fi : EF) : GF := fun z => (fo z).bind fun z1 => (fi z1).bind fun z2 => match pp z2 with
  | some (.int i, z3) => match z3.k with
    | .ali j :: k => (fz ⟨z3.l, k⟩).bind fun y => match y.2.l[j]? with
      | some s => match s.own? with
        | some (.lst us) => (ixN us.length i).map fun n => ⟨y.2.l.set j (tl1 s (.lst (us.set n y.1))), y.2.k⟩
        | _ => none
      | none => none
    | _ => none
  | _ => none
theorem gd_subL {i : Expr} (hq : ∀ {to ti : TE}, PE X o to → PE X i ti → PG X e (gSub to ti rSetL)) (ho : ED X E o f) (hi : ED X E i g) : GD X E e [] (gSubL f g) := ⟨pg_imp (hq ho.pe hi.pe) fun v σ H Q ⟨R, zs, z, z', er, q, c⟩ => by
  obtain ⟨z1, q1, q2⟩ := Option.bind_eq_some_iff.mp q
  obtain ⟨z2, q3, q4⟩ := Option.bind_eq_some_iff.mp q2
  split at q4
  · rename_i i z3 hp
    split at q4
    · rename_i j k hk
      obtain ⟨⟨t, l2, k2⟩, q5, q6⟩ := Option.bind_eq_some_iff.mp q4
      dsimp only at q6
      split at q6
      · rename_i s hs
        split at q6
        · rename_i us hso
          obtain ⟨n, q7, q8⟩ := Option.map_eq_some_iff.mp q6
          cases q8
          refine ⟨R, _, z, z1, er, q1, fun x H1 e1 => ⟨R, _, z1, z2, e1, q3, fun y H2 e2 => ?_⟩⟩
          obtain ⟨w, h1, e3, r⟩ := e2.pp hp
          cases h1; cases r.int
          obtain ⟨l3, k3⟩ := z3
          dsimp only at hk
          subst hk
          obtain ⟨ha, _⟩ := e3.al (some x) j List.mem_cons_self
          obtain ⟨v', h1, e4, rv⟩ := ER.fz e3.pop q5
          cases h1
          obtain ⟨a, hj, ow, wr⟩ := e4.wrl hs hso
          rw [ha] at hj; cases hj
          obtain ⟨o', ho1, xs, rfl, hxs⟩ := ow
          exact ⟨a, xs, i, n, rfl, rfl, ho1, by rw [hxs.len]; exact q7, c σ _ wp_rf (wr _ _ ⟨_, rfl, RepAll.set n hxs rv⟩)⟩
        · cases q6
      · cases q6
    · cases q4
  · cases q4⟩
/-! x op= v of ints -/
def sAug (i : Nat) (op : Int → Int → Int) (f : EF) : SF := fun z => match z.l[i]? with
  | some (.val (.int n)) => (f z).bind fun z1 => match pp z1 with
    | some (.int k, z2) => (put i ⟨z2.l, .val (.int (op n k)) :: z2.k⟩).map .nx
    | _ => none
  | _ => none
theorem sd_aug {i : Nat} {op : Int → Int → Int} (hq : ∀ {t : TE}, PE X e t → PS X st (tAug i t (ipI op))) (he : ED X E e f) : SD X E st (sAug i op f) := ⟨ps_imp (hq he.pe) fun D σ H ⟨R, zs, z, fl, er, q, c⟩ => by
  unfold sAug at q
  split at q
  · rename_i n hn
    obtain ⟨z1, q1, q2⟩ := Option.bind_eq_some_iff.mp q
    split at q2
    · rename_i k z2 hp
      obtain ⟨z3, q3, q4⟩ := Option.map_eq_some_iff.mp q2
      cases q4
      obtain ⟨v, hv, r⟩ := er.loc hn rfl
      refine ⟨v, hv, R, zs, z, z1, er, q1, fun y H1 e1 => ?_⟩
      obtain ⟨w, h1, e2, r2⟩ := e1.pp hp
      cases h1; cases r2.int; cases r.int
      exact ⟨n, k, rfl, rfl, c _ _ ((ER.pval (l := z2.l) (k := z2.k) e2 (.int (op n k))).put q3)⟩
    · cases q2
  · cases q⟩
/-! starred items -/
abbrev SF2 := Z → Option (Nat × Z)
def tAs (E : Ev) (f : SF2) : TA := fun σ H Q => ∃ R zs z m z', ER E R σ zs H z ∧ f z = some (m, z') ∧ ∀ vs H', vs.length = m → ER E R σ (vs.reverse.map some ++ zs) H' z' → Q vs H'
structure ASD (X : Cx) (E : Ev) (es : List Expr) (f : SF2) : Prop where
  pa : PA X es (tAs E f)
def s0 : SF2 := fun z => some (0, z)
def s1 (f : EF) (g : SF2) : SF2 := fun z => (f z).bind fun z1 => (g z1).map fun x => (x.1 + 1, x.2)
def sStar (f : EF) (g : SF2) : SF2 := fun z => (f z).bind fun z1 => match pp z1 with
  | some (.tup ts, z2) => (g ⟨z2.l, ts.reverse.map .val ++ z2.k⟩).map fun x => (x.1 + ts.length, x.2)
  | some (.lst ts, z2) => (g ⟨z2.l, ts.reverse.map .val ++ z2.k⟩).map fun x => (x.1 + ts.length, x.2)
  | _ => none
theorem asd_nil : ASD X E [] s0 := ⟨pa_imp pa_nil fun σ H Q ⟨R, zs, z, m, z', er, q, c⟩ => by cases q; exact c [] H rfl er⟩
theorem asd_cons {sf : SF2} (ha : ED X E e f) (hr : ASD X E es sf) (hs : starEach (e :: es) X.env = (false, eval e X.env) :: starEach es X.env := by rfl) : ASD X E (e :: es) (s1 f sf) := ⟨pa_imp (pa_cons ha.pe hr.pa hs) fun σ H Q ⟨R, zs, z, m, z', er, q, c⟩ => by
  obtain ⟨z1, q1, q2⟩ := Option.bind_eq_some_iff.mp q
  obtain ⟨⟨m1, z2⟩, q3, q4⟩ := Option.map_eq_some_iff.mp q2
  cases q4
  exact ⟨R, zs, z, z1, er, q1, fun x H1 e1 => ⟨R, _, z1, m1, z2, e1, q3, fun xs H2 hl e2 => c (x :: xs) H2 (by rw [List.length_cons, hl]) (by simpa using e2)⟩⟩⟩
theorem star_push {R : Rc} {σ zs : List (Option V)} {H : Hp} {z : Z} {xs : List V} {ts : List T} (e : ER E R σ zs H z) (h : RepAll E (Mz R σ zs z) H xs ts) : ER E R σ (xs.reverse.map some ++ zs) H ⟨z.l, ts.reverse.map .val ++ z.k⟩ := ER.pushAll (l := z.l) (k := z.k) e h.rev
theorem asd_star [EX X E] {sf : SF2} (ha : ED X E e f) (hr : ASD X E es sf) (hs : starEach (.Starred e p2 :: es) X.env = (true, eval e X.env) :: starEach es X.env := by rfl) : ASD X E (.Starred e p2 :: es) (sStar f sf) := ⟨pa_imp (StX.pa_star ha.pe hr.pa hs) fun σ H Q ⟨R, zs, z, m, z', er, q, c⟩ => by
  obtain ⟨z1, q1, q2⟩ := Option.bind_eq_some_iff.mp q
  refine ⟨R, zs, z, z1, er, q1, fun x H1 e1 => ?_⟩
  split at q2
  · rename_i ts z2 hp
    obtain ⟨⟨m1, z3⟩, q3, q4⟩ := Option.map_eq_some_iff.mp q2
    cases q4
    obtain ⟨w, h1, e2, r⟩ := e1.pp hp
    cases h1
    obtain ⟨a, xs, rfl, r1, r2⟩ := r.tup
    exact ⟨a, xs, rfl, .inl (EX.t r1), R, _, _, m1, z3, star_push e2 r2, q3, fun ys H2 hl e3 => c (xs ++ ys) H2 (by rw [List.length_append, hl, r2.len]; omega) (by simpa using e3)⟩
  · rename_i ts z2 hp
    obtain ⟨⟨m1, z3⟩, q3, q4⟩ := Option.map_eq_some_iff.mp q2
    cases q4
    obtain ⟨w, h1, e2, r⟩ := e1.pp hp
    cases h1
    obtain ⟨a, xs, rfl, r1, r2⟩ := r.lst
    exact ⟨a, xs, rfl, .inr (.inl r1), R, _, _, m1, z3, star_push e2 r2, q3, fun ys H2 hl e3 => c (xs ++ ys) H2 (by rw [List.length_append, hl, r2.len]; omega) (by simpa using e3)⟩
  · cases q2⟩
def fTupS (f : SF2) : EF := fun z => (f z).bind fun y => (fzN y.1 y.2).bind fun x => if fit x.1 = true then some ⟨x.2.l, .val (.tup x.1) :: x.2.k⟩ else none
def fLstS (f : SF2) : EF := fun z => (f z).bind fun y => (fzN y.1 y.2).bind fun x => if fit x.1 = true then some ⟨x.2.l, .own (.lst x.1) :: x.2.k⟩ else none
theorem ed_tupS {x1} {sf : SF2} (ha : ASD X E es sf) : ED X E (.Tuple es x1 pos) (fTupS sf) := ⟨pe_imp (pe_tup ha.pa) fun σ H Q ⟨R, zs, z, z', er, q, c⟩ => by
  obtain ⟨⟨m, z1⟩, q1, q2⟩ := Option.bind_eq_some_iff.mp q
  obtain ⟨⟨ts, l, k⟩, q3, q4⟩ := Option.bind_eq_some_iff.mp q2
  obtain ⟨q5, q6⟩ := ite_some' q4
  subst q6
  refine ⟨R, zs, z, m, z1, er, q1, fun vs H1 hl e1 => ?_⟩
  obtain ⟨e2, r⟩ := e1.fzA hl q3
  refine ⟨by rw [r.len]; exact Nat.le_of_ble_eq_true q5, fun p n => c _ _ (e2.pres (res_t e2.trk n r))⟩⟩
theorem ed_lstS {sf : SF2} (ha : ASD X E es sf) : ED X E (.List es pos) (fLstS sf) := ⟨pe_imp (pe_lst ha.pa) fun σ H Q ⟨R, zs, z, z', er, q, c⟩ => by
  obtain ⟨⟨m, z1⟩, q1, q2⟩ := Option.bind_eq_some_iff.mp q
  obtain ⟨⟨ts, l, k⟩, q3, q4⟩ := Option.bind_eq_some_iff.mp q2
  obtain ⟨q5, q6⟩ := ite_some' q4
  subst q6
  refine ⟨R, zs, z, m, z1, er, q1, fun vs H1 hl e1 => ?_⟩
  obtain ⟨e2, r⟩ := e1.fzA hl q3
  refine ⟨by rw [r.len]; exact Nat.le_of_ble_eq_true q5, fun p n => c _ _ (e2.pres (res_l n r))⟩⟩
/-! a, *b = t -/
def unS (z : Z) : Option Z := match pp z with
  | some (.tup (t :: ts), z1) => some ⟨z1.l, .val t :: .own (.lst ts) :: z1.k⟩
  | _ => none
theorem gd_star [EX X E] {e1 e2 : Expr} {k : Nat} {is js : List Nat} {g1 g2 : GF} (hc : X.calm = true) (h1 : GD X E e1 is g1) (h2 : GD X E e2 js g2) (ha : assignEach [e1, .Starred e2 p2] X.env = [(false, assign e1 X.env), (true, assign e2 X.env)] := by rfl) : GD X E (.Tuple [e1, .Starred e2 p2] k pos) (is ++ js) (f2 unS (f2 g1 g2)) :=
  ⟨pg_imp (pg_star hc h1.pg h2.pg ha) fun v σ H Q ⟨R, zs, z, z', er, q, c⟩ => by
    obtain ⟨z1, q1, q2⟩ := Option.bind_eq_some_iff.mp q
    obtain ⟨z2, q3, q4⟩ := Option.bind_eq_some_iff.mp q2
    unfold unS at q1
    split at q1
    · rename_i t ts z3 hp
      cases q1
      obtain ⟨w, h1, e1, r⟩ := er.pp hp
      cases h1
      obtain ⟨a, xs, rfl, r1, r2⟩ := r.tup
      cases r2 with
      | cons k1 k2 =>
        rename_i x xs
        refine ⟨a, x, xs, rfl, EX.t r1, fun p hpn => ?_⟩
        have e2 := ER.pown (l := z3.l) (k := z3.k) (t := .lst ts) (o := .lst xs) e1 hpn ⟨xs, rfl, k2⟩
        have s2 : Same H (upd H p (.lst xs)) := same_new hpn
        have e3 := e2.pval (v := x) (t := t) (Rep.mv (fun b o eb mb => ⟨s2 _ _ eb, fun z => mb ?_⟩) _ _ k1)
        · exact ⟨R, _, _, z2, e3, q3, fun σ1 H1 w1 e4 => ⟨R, zs, z2, z', e4, q4, fun σ2 H2 w2 e5 => c σ2 H2 (wp_tr w1 w2) e5⟩⟩
        · have := (mx_perm (pz_push (σ := σ) (zs := zs) (l := z3.l) (k := z3.k) (some (V.ref p)) (Sl.own (.lst ts))).symm b).mp z
          rcases (mx_cons b).mp this with ⟨_, zz⟩ | zz
          · cases zz; rw [hpn] at eb; cases eb
          · exact zz
    · cases q1⟩
end
end Fn
set_option Elab.async false
set_option linter.all false
set_option maxRecDepth 100000
set_option maxHeartbeats 4000000
/-! own layer, data: sorted, sets -/
namespace Fn
open PySem PySem.Spec PyProof.Rows L2 Rw
theorem hu65 {k : Nat} {A : Around} (r : Room k A) : A.units + 65 < cLine := by have := r.un; omega
/-! is True, is False -/
section
variable {X : Cx} {E : Ev} [ex : EX X E]
theorem same_bool {M : Model} {A : Around} {Ee : Value → Shared → Prop} {s : Shared} {b c : Bool} {Q : Bool → Shared → Prop} (h : Q (decide (b = c)) s) : wpAny M A (isSame (.bool b) (.bool c)) Q Ee s := by
  cases b <;> cases c <;> exact wpAny_pure h
theorem op_isB : OpR X (compareOp .Is) (fun x y H Q => ∃ b c, x = .bl b ∧ y = .bl c ∧ Q (.bl (decide (b = c))) H) := by
  intro pins s σ H x y v u Q I rx ry h
  obtain ⟨b, c, rfl, rfl, q⟩ := h
  cases rx; cases ry
  show wpAny _ _ ((isSame (.bool b) (.bool c)) >>= fun z => pure (Value.bool z)) _ _ s
  exact wpAny_bind (same_bool (wpAny_pure (fin_bl I q rfl)))
theorem op_notB : OpR X (compareOp .IsNot) (fun x y H Q => ∃ b c, x = .bl b ∧ y = .bl c ∧ Q (.bl (!decide (b = c))) H) := by
  intro pins s σ H x y v u Q I rx ry h
  obtain ⟨b, c, rfl, rfl, q⟩ := h
  cases rx; cases ry
  show wpAny _ _ ((isSame (.bool b) (.bool c)) >>= fun z => pure (Value.bool (!z))) _ _ s
  exact wpAny_bind (same_bool (wpAny_pure (fin_bl I q rfl)))
def oIsB (neg : Bool) : O2 := fun a b => match a, b with
  | .bl b, .bl c => some (.val (.bl (if neg = true then !decide (b = c) else decide (b = c))))
  | _, _ => none
theorem ok_isB : Ok2 E (fun x y H Q => ∃ b c, x = .bl b ∧ y = .bl c ∧ Q (.bl (decide (b = c))) H) (oIsB false) := fun M H x y tx ty s Q k hx hy ho c => by
  unfold oIsB at ho
  split at ho
  · cases ho; cases hx.bl; cases hy.bl; exact ⟨_, _, rfl, rfl, c _ _ (res_v (.bl _))⟩
  · cases ho
theorem ok_notB : Ok2 E (fun x y H Q => ∃ b c, x = .bl b ∧ y = .bl c ∧ Q (.bl (!decide (b = c))) H) (oIsB true) := fun M H x y tx ty s Q k hx hy ho c => by
  unfold oIsB at ho
  split at ho
  · cases ho; cases hx.bl; cases hy.bl; exact ⟨_, _, rfl, rfl, c _ _ (res_v (.bl _))⟩
  · cases ho
end
/-! ### a stable sort that runs -/
section
variable {α : Type} {le : α → α → Bool}
theorem insB_filter (h : PySem.W.TotalLe le) (c x : α) : ∀ l : List α, (insB le x l).filter (PySem.W.sameRank le c) = (x :: l).filter (PySem.W.sameRank le c)
  | [] => rfl
  | y :: ys => by
    unfold insB
    by_cases q : le x y = true
    · rw [if_pos q]
    · rw [if_neg q, List.filter_cons, insB_filter h c x ys]
      simp only [List.filter_cons]
      by_cases hx : PySem.W.sameRank le c x = true
      · by_cases hy : PySem.W.sameRank le c y = true
        · exfalso
          unfold PySem.W.sameRank at hx hy
          rw [Bool.and_eq_true] at hx hy
          exact q (h.trans _ _ _ hx.2 hy.1)
        · simp [hx, hy]
      · simp [hx]
theorem isort_filter (h : PySem.W.TotalLe le) (c : α) : ∀ l : List α, (isort le l).filter (PySem.W.sameRank le c) = l.filter (PySem.W.sameRank le c)
  | [] => rfl
  | x :: l => by
    unfold isort
    rw [insB_filter h c x, List.filter_cons, List.filter_cons, isort_filter h c l]
theorem isort_eq (h : PySem.W.TotalLe le) (l : List α) : isort le l = l.mergeSort le := PySem.W.sort_unique h (isort_sorted h.trans h.total l) (isort_filter h · l)
end
/-! ### what is sorted -/
inductive Ty where
  | int | str | bl | tupv (e : Ty) | tupf (es : List Ty)
mutual
def hasTy : Ty → T → Bool
  | .int, .int _ => true
  | .str, .str _ => true
  | .bl, .bl _ => true
  | .tupv e, .tup ts => hasTyV e ts
  | .tupf es, .tup ts => hasTys es ts
  | _, _ => false
def hasTyV (e : Ty) : List T → Bool
  | [] => true
  | t :: ts => hasTy e t && hasTyV e ts
def hasTys : List Ty → List T → Bool
  | [], [] => true
  | e :: es, t :: ts => hasTy e t && hasTys es ts
  | _, _ => false
end
mutual
def Ty.dep : Ty → Nat
  | .tupv e => e.dep + 1
  | .tupf es => Ty.deps es + 1
  | _ => 0
def Ty.deps : List Ty → Nat
  | [] => 0
  | e :: es => max e.dep (Ty.deps es)
end
/-- what such a thing is as a datum -/
structure TyD (e : Ty) (d : PyData) : Prop where
  dp : d.depth ≤ e.dep
theorem depth_tup (ds : List PyData) : (PyData.tuple ds).depth = PyData.depthAll ds + 1 := by
  unfold PyData.depth
  first | rfl | omega | simp [Nat.add_comm]
mutual
theorem ty_dat : ∀ (e : Ty) (t : T), hasTy e t = true → ∃ d, t.dat = some d ∧ d.depth ≤ e.dep
  | .int, .int i, _ => ⟨_, rfl, Nat.le_refl _⟩
  | .str, .str i, _ => ⟨_, rfl, Nat.le_refl _⟩
  | .bl, .bl i, _ => ⟨_, rfl, Nat.le_refl _⟩
  | .tupv e, .tup ts, h => by
    obtain ⟨ds, h1, h2⟩ := ty_datV e ts h
    refine ⟨.tuple ds, by unfold T.dat; rw [h1]; rfl, ?_⟩
    rw [depth_tup]
    exact Nat.succ_le_succ h2
  | .tupf es, .tup ts, h => by
    obtain ⟨ds, h1, h2⟩ := ty_dats es ts h
    refine ⟨.tuple ds, by unfold T.dat; rw [h1]; rfl, ?_⟩
    rw [depth_tup]
    exact Nat.succ_le_succ h2
theorem ty_datV (e : Ty) : ∀ (ts : List T), hasTyV e ts = true → ∃ ds, T.dats ts = some ds ∧ PyData.depthAll ds ≤ e.dep
  | [], _ => ⟨[], rfl, Nat.zero_le _⟩
  | t :: ts, h => by
    unfold hasTyV at h
    rw [Bool.and_eq_true] at h
    obtain ⟨d, h1, h2⟩ := ty_dat e t h.1
    obtain ⟨ds, h3, h4⟩ := ty_datV e ts h.2
    refine ⟨d :: ds, by unfold T.dats; rw [h1, h3], ?_⟩
    unfold PyData.depthAll
    exact Nat.max_le.mpr ⟨h2, h4⟩
theorem ty_dats : ∀ (es : List Ty) (ts : List T), hasTys es ts = true → ∃ ds, T.dats ts = some ds ∧ PyData.depthAll ds ≤ Ty.deps es
  | [], [], _ => ⟨[], rfl, Nat.zero_le _⟩
  | e :: es, t :: ts, h => by
    unfold hasTys at h
    rw [Bool.and_eq_true] at h
    obtain ⟨d, h1, h2⟩ := ty_dat e t h.1
    obtain ⟨ds, h3, h4⟩ := ty_dats es ts h.2
    refine ⟨d :: ds, by unfold T.dats; rw [h1, h3], ?_⟩
    unfold PyData.depthAll
    unfold Ty.deps
    exact Nat.max_le.mpr ⟨Nat.le_trans h2 (Nat.le_max_left ..), Nat.le_trans h4 (Nat.le_max_right ..)⟩
end
theorem dat_tup {t : List T} {d : PyData} (h : (T.tup t).dat = some d) : ∃ ds, T.dats t = some ds ∧ d = .tuple ds := by
  unfold T.dat at h
  obtain ⟨ds, h1, rfl⟩ := Option.map_eq_some_iff.mp h
  exact ⟨ds, h1, rfl⟩
mutual
theorem ty_alike : ∀ (e : Ty) (t u : T) (d d' : PyData), hasTy e t = true → hasTy e u = true → t.dat = some d → u.dat = some d' → PySem.W.alike d d' = true
  | .int, .int _, .int _, _, _, _, _, h, h' => by cases h; cases h'; rfl
  | .str, .str _, .str _, _, _, _, _, h, h' => by cases h; cases h'; rfl
  | .bl, .bl _, .bl _, _, _, _, _, h, h' => by cases h; cases h'; rfl
  | .tupv e, .tup ts, .tup us, _, _, k, k', h, h' => by
    obtain ⟨ds, h1, rfl⟩ := dat_tup h
    obtain ⟨ds', h2, rfl⟩ := dat_tup h'
    exact ty_alikeV e ts us ds ds' k k' h1 h2
  | .tupf es, .tup ts, .tup us, _, _, k, k', h, h' => by
    obtain ⟨ds, h1, rfl⟩ := dat_tup h
    obtain ⟨ds', h2, rfl⟩ := dat_tup h'
    exact ty_alikes es ts us ds ds' k k' h1 h2
theorem ty_alikeV (e : Ty) : ∀ (ts us : List T) (ds ds' : List PyData), hasTyV e ts = true → hasTyV e us = true → T.dats ts = some ds → T.dats us = some ds' → PySem.W.alikeAll ds ds' = true
  | [], us, _, ds', _, _, h, _ => by cases h; cases ds' <;> rfl
  | t :: ts, [], _, _, _, _, h, h' => by
    cases h'
    obtain ⟨d, ds1, rfl, _, _⟩ := dats_cons h
    rfl
  | t :: ts, u :: us, _, _, k, k', h, h' => by
    obtain ⟨d, ds1, rfl, h1, h2⟩ := dats_cons h
    obtain ⟨d', ds2, rfl, h3, h4⟩ := dats_cons h'
    unfold hasTyV at k k'
    rw [Bool.and_eq_true] at k k'
    unfold PySem.W.alikeAll
    rw [ty_alike e t u d d' k.1 k'.1 h1 h3, ty_alikeV e ts us ds1 ds2 k.2 k'.2 h2 h4]; rfl
theorem ty_alikes : ∀ (es : List Ty) (ts us : List T) (ds ds' : List PyData), hasTys es ts = true → hasTys es us = true → T.dats ts = some ds → T.dats us = some ds' → PySem.W.alikeAll ds ds' = true
  | [], [], [], _, _, _, _, h, h' => by cases h; cases h'; rfl
  | e :: es, t :: ts, u :: us, _, _, k, k', h, h' => by
    obtain ⟨d, ds1, rfl, h1, h2⟩ := dats_cons h
    obtain ⟨d', ds2, rfl, h3, h4⟩ := dats_cons h'
    unfold hasTys at k k'
    rw [Bool.and_eq_true] at k k'
    unfold PySem.W.alikeAll
    rw [ty_alike e t u d d' k.1 k'.1 h1 h3, ty_alikes es ts us ds1 ds2 k.2 k'.2 h2 h4]; rfl
end
def datG (t : T) : PyData := t.dat.getD .none
def leT2 (a b : T) : Bool := !PySem.W.dataLt (datG b) (datG a)
/-- sortable: no None, tuples not empty -/
def sortOk : Ty → List T → Bool
  | .tupf (_ :: _), _ => true
  | .tupv _, ts => ts.all fun t => match t with
    | .tup (_ :: _) => true
    | _ => false
  | .tupf [], _ => false
  | _, _ => true
def sortT (ts : List T) : List T := isort leT2 ts
def oSort (e : Ty) : ON := fun ts => match ts with
  | [.lst us] => if (hasTyV e us && sortOk e us && Nat.ble e.dep 60) = true then some (.own (.lst (sortT us))) else none
  | [.tup us] => none
  | _ => none
theorem hasTy_mem {e : Ty} : ∀ {ts : List T} {t : T}, hasTyV e ts = true → t ∈ ts → hasTy e t = true
  | u :: ts, t, h, m => by
    unfold hasTyV at h
    rw [Bool.and_eq_true] at h
    rcases List.mem_cons.mp m with rfl | m
    · exact h.1
    · exact hasTy_mem h.2 m
theorem total2 : PySem.W.TotalLe leT2 := PySem.W.sortLe_total (listOrd itemOrd) false fun t => PySem.W.keyToks (datG t)
theorem rep_zip {E : Ev} {M : Addr → Prop} {H : Hp} : ∀ {xs : List V} {ts : List T}, RepAll E M H xs ts → (xs.zip ts).map Prod.fst = xs ∧ (xs.zip ts).map Prod.snd = ts ∧ ∀ z ∈ xs.zip ts, Rep E M H z.1 z.2
  | _, _, .nil => ⟨rfl, rfl, fun z h => by cases h⟩
  | _, _, .cons h1 h2 => by
    obtain ⟨e1, e2, e3⟩ := rep_zip h2
    refine ⟨by simp [e1], by simp [e2], fun z hz => ?_⟩
    rcases List.mem_cons.mp hz with rfl | hz
    · exact h1
    · exact e3 z hz
theorem ok_sort {X : Cx} {E : Ev} [EX X E] (e : Ty) : OkC E (rSortD X.K) (oSort e) := fun M H xs ts s Q k hs ho c => by
  unfold oSort at ho
  split at ho
  · rename_i us
    obtain ⟨h1, h2⟩ := ite_some' ho
    subst h2
    rw [Bool.and_eq_true, Bool.and_eq_true] at h1
    obtain ⟨⟨hty, hso⟩, hdp⟩ := h1
    obtain ⟨x, rfl, r⟩ := seen1 hs
    obtain ⟨a, vs, rfl, r1, r2⟩ := r.lst
    obtain ⟨z1, z2, z3⟩ := rep_zip r2
    let f : V × T → V × PyData := fun w => (w.1, datG w.2)
    have mem : ∀ w ∈ vs.zip us, hasTy e w.2 = true := fun w hw => hasTy_mem hty (by rw [← z2]; exact List.mem_map_of_mem hw)
    have dat : ∀ w ∈ vs.zip us, ∃ d, w.2.dat = some d ∧ datG w.2 = d ∧ d.depth ≤ e.dep := fun w hw => by
      obtain ⟨d, h1, h2⟩ := ty_dat e w.2 (mem w hw)
      exact ⟨d, h1, by unfold datG; rw [h1]; rfl, h2⟩
    have hsort : ((vs.zip us).map f).mergeSort (PySem.W.dataLe false (·.2)) = ((vs.zip us).mergeSort fun a b => leT2 a.2 b.2).map f := by
      refine (PySem.W.sort_maps f fun a _ b _ => ?_).symm
      rfl
    have hsn : ((vs.zip us).mergeSort fun a b => leT2 a.2 b.2).map Prod.snd = sortT us := by
      rw [PySem.W.sort_maps Prod.snd (s := leT2) fun a _ b _ => rfl, z2]
      exact (isort_eq total2 us).symm
    refine ⟨a, (vs.zip us).map f, rfl, ?_, fun z hz => ?_, fun d hd d' hd' => ?_, ?_, fun p hp => ?_⟩
    · rw [List.map_map]
      show SqL X.K H a ((vs.zip us).map Prod.fst)
      rw [z1]
      exact .inl r1
    · obtain ⟨w, hw, rfl⟩ := List.mem_map.mp hz
      obtain ⟨d, h1, h2, h3⟩ := dat w hw
      refine ⟨?_, ?_⟩
      · show Dp X.K H w.1 (datG w.2)
        rw [h2]
        exact dp_k (Rep.dp _ _ _ (z3 w hw) h1)
      · show (datG w.2).depth ≤ 60
        rw [h2]
        exact Nat.le_trans h3 (Nat.le_of_ble_eq_true hdp)
    · rw [List.map_map] at hd hd'
      obtain ⟨w, hw, rfl⟩ := List.mem_map.mp hd
      obtain ⟨w', hw', rfl⟩ := List.mem_map.mp hd'
      obtain ⟨d, h1, h2, h3⟩ := dat w hw
      obtain ⟨d', h4, h5, h6⟩ := dat w' hw'
      show PySem.W.alike (datG w.2) (datG w'.2) = true
      rw [h2, h5]
      exact ty_alike e _ _ _ _ (mem w hw) (mem w' hw') h1 h4
    · rw [List.map_map]
      have all : ∀ d ∈ (vs.zip us).map ((fun z : V × PyData => z.2) ∘ f), ∃ t ∈ us, hasTy e t = true ∧ t.dat = some d := fun d hd => by
        obtain ⟨w, hw, rfl⟩ := List.mem_map.mp hd
        obtain ⟨d, h1, h2, h3⟩ := dat w hw
        exact ⟨w.2, by rw [← z2]; exact List.mem_map_of_mem hw, mem w hw, h1.trans (congrArg some h2.symm)⟩
      cases e with
      | int =>
        refine .inr fun d hd => ?_
        obtain ⟨t, _, ht, htd⟩ := all d hd
        match t, ht, htd with
        | .int i, _, htd => cases htd; exact ⟨by simp, by simp⟩
      | str =>
        refine .inr fun d hd => ?_
        obtain ⟨t, _, ht, htd⟩ := all d hd
        match t, ht, htd with
        | .str i, _, htd => cases htd; exact ⟨by simp, by simp⟩
      | bl =>
        refine .inr fun d hd => ?_
        obtain ⟨t, _, ht, htd⟩ := all d hd
        match t, ht, htd with
        | .bl i, _, htd => cases htd; exact ⟨by simp, by simp⟩
      | tupv e =>
        refine .inl fun d hd => ?_
        obtain ⟨t, hm, ht, htd⟩ := all d hd
        have := List.all_eq_true.mp hso t hm
        split at this
        · obtain ⟨ds, h1, rfl⟩ := dat_tup htd
          obtain ⟨x, ds1, rfl, _, _⟩ := dats_cons h1
          exact ⟨x, ds1, rfl⟩
        · cases this
      | tupf es =>
        cases es with
        | nil => cases hso
        | cons e es =>
          refine .inl fun d hd => ?_
          obtain ⟨t, hm, ht, htd⟩ := all d hd
          cases t with
          | tup ts =>
            cases ts with
            | nil => cases ht
            | cons u ts =>
              obtain ⟨ds, h1, rfl⟩ := dat_tup htd
              obtain ⟨x, ds1, rfl, _, _⟩ := dats_cons h1
              exact ⟨x, ds1, rfl⟩
          | _ => cases ht
    · rw [hsort, List.map_map]
      refine c _ _ ⟨p, _, H, fun _ _ q => q, hp, rfl, rfl, _, rfl, ?_⟩
      rw [← hsn]
      show RepAll E M H (((vs.zip us).mergeSort fun a b => leT2 a.2 b.2).map fun w => w.1) (((vs.zip us).mergeSort fun a b => leT2 a.2 b.2).map fun w => w.2)
      exact RepAll.map fun w hw => z3 w ((List.mergeSort_perm ..).mem_iff.mp hw)
  · cases ho
  · cases ho
/-! sorted(set(ints)) -/
def intsT : List T → Option (List Int)
  | [] => some []
  | .int i :: ts => (intsT ts).map (i :: ·)
  | _ => none
theorem intsT_eq : ∀ {ts : List T} {ns : List Int}, intsT ts = some ns → ts = ns.map .int
  | [], ns, h => by cases h; rfl
  | t :: ts, ns, h => by
    cases t with
    | int b =>
      obtain ⟨ns1, h1, rfl⟩ := Option.map_eq_some_iff.mp h
      rw [intsT_eq h1]; rfl
    | _ => cases h
def insI (x : Int) : List Int → List Int
  | [] => [x]
  | y :: ys => if x < y then x :: y :: ys else if x = y then y :: ys else y :: insI x ys
def ssort : List Int → List Int
  | [] => []
  | x :: xs => insI x (ssort xs)
theorem insI_mem {x k : Int} : ∀ {l : List Int}, k ∈ insI x l ↔ k = x ∨ k ∈ l
  | [] => by unfold insI; simp
  | y :: ys => by
    unfold insI
    split
    · simp
    · split
      · rename_i h; subst h; simp
      · rw [List.mem_cons, insI_mem, List.mem_cons]
        constructor
        · rintro (h | h | h)
          · exact .inr (.inl h)
          · exact .inl h
          · exact .inr (.inr h)
        · rintro (h | h | h)
          · exact .inr (.inl h)
          · exact .inl h
          · exact .inr (.inr h)
theorem insI_pw {x : Int} : ∀ {l : List Int}, l.Pairwise (· < ·) → (insI x l).Pairwise (· < ·)
  | [], _ => by unfold insI; simp
  | y :: ys, h => by
    obtain ⟨h1, h2⟩ := List.pairwise_cons.mp h
    unfold insI
    split
    · rename_i q
      refine List.pairwise_cons.mpr ⟨fun z hz => ?_, h⟩
      rcases List.mem_cons.mp hz with rfl | hz
      · exact q
      · exact Int.lt_trans q (h1 z hz)
    · split
      · exact h
      · rename_i q q2
        refine List.pairwise_cons.mpr ⟨fun z hz => ?_, insI_pw h2⟩
        rcases insI_mem.mp hz with rfl | hz
        · omega
        · exact h1 z hz
theorem ssort_mem {k : Int} : ∀ {l : List Int}, k ∈ ssort l ↔ k ∈ l
  | [] => Iff.rfl
  | x :: l => by unfold ssort; rw [insI_mem, ssort_mem, List.mem_cons]
theorem ssort_pw : ∀ {l : List Int}, (ssort l).Pairwise (· < ·)
  | [] => .nil
  | x :: l => insI_pw ssort_pw
theorem pw_one : ∀ {l m : List Int}, l.Pairwise (· < ·) → m.Pairwise (· < ·) → (∀ k, k ∈ l ↔ k ∈ m) → l = m
  | [], [], _, _, _ => rfl
  | [], y :: m, _, _, h => absurd ((h y).mpr List.mem_cons_self) (by simp)
  | x :: l, [], _, _, h => absurd ((h x).mp List.mem_cons_self) (by simp)
  | x :: l, y :: m, h1, h2, h => by
    obtain ⟨a1, a2⟩ := List.pairwise_cons.mp h1
    obtain ⟨b1, b2⟩ := List.pairwise_cons.mp h2
    have hx : x = y := by
      rcases List.mem_cons.mp ((h x).mp List.mem_cons_self) with e | e
      · exact e
      · rcases List.mem_cons.mp ((h y).mpr List.mem_cons_self) with e' | e'
        · exact e'.symm
        · have := b1 x e; have := a1 y e'; omega
    subst hx
    rw [pw_one a2 b2 fun k => ?_]
    constructor
    · intro hk
      rcases List.mem_cons.mp ((h k).mp (List.mem_cons_of_mem _ hk)) with e | e
      · have := a1 k hk; omega
      · exact e
    · intro hk
      rcases List.mem_cons.mp ((h k).mpr (List.mem_cons_of_mem _ hk)) with e | e
      · have := b1 k hk; omega
      · exact e
section
variable {X : Cx} {E : Ev} [ex : EX X E] {e a b c : Expr} {es : List Expr} {pos pos' p2 : Pos} {f g : EF}
def T.items : T → Option (List T)
  | .lst ts => some ts
  | .tup ts => some ts
  | _ => none
def fSortSet (f : EF) : EF := fun z => (f z).bind fun z1 => (pp z1).bind fun x => x.1.items.bind fun ts => (intsT ts).bind fun ns => if Nat.blt ns.length 64 = true then some ⟨x.2.l, .own (.lst ((ssort ns).map .int)) :: x.2.k⟩ else none
theorem ed_sortSet {e2 : Expr} (hq : ∀ {t : TA}, PA X [e2] t → PE X e (tCB (rSortedSet X.w) t)) (hq2 : ∀ {t : TA}, PA X [a] t → PE X e2 (tCB (rSetI X.K X.w) t)) (ha : ED X E a f)
    (h1 : starEach [a] X.env = (false, eval a X.env) :: starEach [] X.env := by rfl) (h2 : starEach [e2] X.env = (false, eval e2 X.env) :: starEach [] X.env := by rfl) : ED X E e (fSortSet f) := ⟨pe_imp (hq (pa_cons (hq2 (pa_cons ha.pe pa_nil h1)) pa_nil h2)) fun σ H Q ⟨R, zs, z, z', er, q, c⟩ => by
  obtain ⟨z1, q1, q2⟩ := Option.bind_eq_some_iff.mp q
  obtain ⟨⟨t, z2⟩, q3, q4⟩ := Option.bind_eq_some_iff.mp q2
  obtain ⟨ts, q5, q6⟩ := Option.bind_eq_some_iff.mp q4
  obtain ⟨ns, q7, q8⟩ := Option.bind_eq_some_iff.mp q6
  obtain ⟨q9, q10⟩ := ite_some' q8
  subst q10
  have hlt : ns.length < 64 := Nat.le_of_ble_eq_true q9
  refine ⟨R, zs, z, z1, er, q1, fun v H1 e1 => ?_⟩
  obtain ⟨w, hw, e2, r⟩ := e1.pp q3
  cases hw
  have seq : ∃ p xs, v = .ref p ∧ (SqL X.K H1 p xs ∨ SqT X.K H1 p xs) ∧ xs = ns.map V.int := by
    have ei := intsT_eq q7
    cases t with
    | lst us =>
      cases q5
      obtain ⟨p, xs, rfl, r1, r2⟩ := r.lst
      rw [ei] at r2
      exact ⟨p, xs, rfl, .inl (.inl r1), RepAll.ints r2⟩
    | tup us =>
      cases q5
      obtain ⟨p, xs, rfl, r1, r2⟩ := r.tup
      rw [ei] at r2
      exact ⟨p, xs, rfl, .inr (EX.t r1), RepAll.ints r2⟩
    | _ => cases q5
  obtain ⟨p, xs, rfl, hs, rfl⟩ := seq
  refine ⟨p, ns, rfl, hs, by omega, fun b n hb hn => ?_⟩
  have s1 : Same H1 (upd H1 b (SetO X.w b (fun j => decide (j ∈ ns)) n)) := same_new hb
  refine ⟨b, _, n, rfl, upd_same, by omega, fun ms q hp hm hl hq => ?_⟩
  have : ms = ssort ns := pw_one hp ssort_pw fun k => by rw [hm, ssort_mem]; exact decide_eq_true_iff
  subst this
  refine c _ _ (ER.pres (l := z2.l) (k := z2.k) (e2.same s1) (res_l hq ?_))
  exact RepAll.map fun i _ => .int i⟩
/-! len(set(tuples)), where no two are alike -/
def keyT : T → Option Key
  | .int i => some (.inl i)
  | .str x => some (.inr x)
  | _ => none
def keysT : List T → Option (List Key)
  | [] => some []
  | t :: ts => match keyT t, keysT ts with
    | some k, some ks => some (k :: ks)
    | _, _ => none
def rowsT : List T → Option (List (List Key))
  | [] => some []
  | .tup us :: ts => match keysT us, rowsT ts with
    | some k, some ks => some (k :: ks)
    | _, _ => none
  | _ => none
theorem keys_rep {M : Addr → Prop} {H : Hp} : ∀ {ts : List T} {ks : List Key} {xs : List V}, keysT ts = some ks → RepAll E M H xs ts → xs = ks.map kV
  | [], ks, xs, h, r => by cases h; cases r; rfl
  | t :: ts, ks, xs, h, r => by
    unfold keysT at h
    split at h
    · cases h
      cases r with
      | cons r1 r2 =>
        rw [keys_rep ‹_› r2]
        have hk := ‹keyT t = some _›
        cases t with
        | int i => cases hk; cases r1; rfl
        | str i => cases hk; cases r1; rfl
        | _ => cases hk
    · cases h
theorem rows_rep {M : Addr → Prop} {H : Hp} : ∀ {ts : List T} {rs : List (List Key)} {xs : List V}, rowsT ts = some rs → RepAll E M H xs ts → ∃ ks : List Pr, xs = (ks.map fun p => V.ref p.1) ∧ ks.map Prod.snd = rs ∧ ∀ p ∈ ks, SqT X.K H p.1 (p.2.map kV)
  | [], rs, xs, h, r => by cases h; cases r; exact ⟨[], rfl, rfl, fun p h => by cases h⟩
  | t :: ts, rs, xs, h, r => by
    cases t with
    | tup us =>
      unfold rowsT at h
      split at h
      · cases h
        cases r with
        | cons r1 r2 =>
          obtain ⟨ks, h1, h2, h3⟩ := rows_rep ‹_› r2
          obtain ⟨a, ys, rfl, h4, h5⟩ := (show Seen E M H _ (.tup us) from .inl r1).tup
          have := keys_rep ‹_› h5
          subst this
          refine ⟨(a, _) :: ks, by rw [h1]; rfl, by rw [List.map_cons, h2], fun p hp => ?_⟩
          rcases List.mem_cons.mp hp with rfl | hp
          · exact EX.t h4
          · exact h3 p hp
      · cases h
    | _ => unfold rowsT at h; cases h
def fLenSet (f : EF) : EF := fun z => (f z).bind fun z1 => match pp z1 with
  | some (.lst ts, z2) => (rowsT ts).bind fun rs => if (Nat.blt rs.length 64 && decide rs.Nodup) = true then some ⟨z2.l, .val (.int rs.length) :: z2.k⟩ else none
  | _ => none
theorem ed_lenSet (hq : ∀ {t : TE}, PE X a t → PE X e (tLenM X.K t)) (ha : ED X E a f) : ED X E e (fLenSet f) := ⟨pe_imp (hq ha.pe) fun σ H Q ⟨R, zs, z, z', er, q, c⟩ => by
  obtain ⟨z1, q1, q2⟩ := Option.bind_eq_some_iff.mp q
  split at q2
  · rename_i ts z2 hp
    obtain ⟨rs, q3, q4⟩ := Option.bind_eq_some_iff.mp q2
    obtain ⟨q5, q6⟩ := ite_some' q4
    subst q6
    rw [Bool.and_eq_true] at q5
    refine ⟨R, zs, z, z1, er, q1, fun v H1 e1 => ?_⟩
    obtain ⟨w, hw, e2, r⟩ := e1.pp hp
    cases hw
    obtain ⟨a, xs, rfl, r1, r2⟩ := r.lst
    obtain ⟨ks, rfl, k2, k3⟩ := rows_rep (X := X) q3 r2
    have hl : ks.length = rs.length := by rw [← k2, List.length_map]
    refine ⟨a, ks, rfl, .inl r1, k3, by rw [hl]; exact Nat.le_of_ble_eq_true q5.1, fun m hm => ?_⟩
    rw [hm.mpr (by rw [k2]; exact of_decide_eq_true q5.2), hl]
    exact c _ _ (ER.pval (l := z2.l) (k := z2.k) e2 (.int _))
  · cases q2⟩
end
end Fn
set_option Elab.async false
set_option linter.all false
set_option maxRecDepth 100000
set_option maxHeartbeats 4000000
/-! own layer, data: comprehensions of two for -/
namespace Fn
open PySem PySem.Spec PyProof.Rows L2 Rw
def lcI (src : Sc) (m2 m n : Nat) (vs : List Nat) (g : GF) (p : TF) (fe : EF) : Nat → EF
  | 0 => fun z => (src z).bind fun ts => if (ts.length == n) = true then some (drN m2 z) else none
  | r + 1 => fun z => (src z).bind fun ts => if (ts.length == n) = true then (ts[n - (r + 1)]?).bind fun x => ((g ⟨z.l, .val x :: z.k⟩).bind (lcE (m2 + m) vs p fe)).bind (lcI src m2 m n vs g p fe r) else none
def lcT (m : Nat) (vs : List Nat) (p : TF) (fi2 : IF) (m2 : Nat) (vs1 : List Nat) (g2 : GF) (p2 : TF) (fe : EF) : EF := fun z1 => (p z1).bind fun y => if y.1 = true then (fi2 y.2).bind fun w => (w.2 w.1).bind fun ts => ((zw vs1 w.1).bind (lcI w.2 m2 m ts.length vs1 g2 p2 fe ts.length)).bind (zw vs) else zw vs y.2
def lcO2 (src : Sc) (m n : Nat) (g : GF) (t : EF) : Nat → EF
  | 0 => fun z => (src z).bind fun ts => if (ts.length == n) = true then some (drN m z) else none
  | r + 1 => fun z => (src z).bind fun ts => if (ts.length == n) = true then (ts[n - (r + 1)]?).bind fun x => ((g ⟨z.l, .val x :: z.k⟩).bind t).bind (lcO2 src m n g t r) else none
def fLc2 (fi : IF) (m : Nat) (vs : List Nat) (g : GF) (p : TF) (fi2 : IF) (m2 : Nat) (vs1 : List Nat) (g2 : GF) (p2 : TF) (fe : EF) : EF := fun z => (fi z).bind fun x => (x.2 x.1).bind fun ts => ((zw vs (ins m (.own (.lst [])) x.1)).bind (lcO2 x.2 m ts.length g (lcT m vs p fi2 m2 vs1 g2 p2 fe) ts.length)).bind fun z' => if areNo vs z' = true then some z' else none
theorem wipe_sub {σ : L2.St} {vs : List Nat} : ∀ {us : List Nat}, (∀ u ∈ us, u ∈ vs) → wipe (wipe σ us) vs = wipe σ vs
  | [], _ => rfl
  | u :: us, h => by
    show wipe ((wipe σ us).set u none) vs = _
    rw [wipe_set (h u List.mem_cons_self), wipe_sub fun v hv => h v (List.mem_cons_of_mem _ hv)]
section
variable {X : Cx} {E : Ev} {e a b c elt : Expr} {es : List Expr} {pos : Pos} {f g fe : EF} {p p2 : TF}
theorem ed_lc2D {is is2 vs vs1 : List Nat} {fi fi2 : IF} {m m2 : Nat} {gg gg2 : GF} {σ : L2.St} {H : Hp} {Q : VK} (hs : ∀ i ∈ is, i ∈ vs) (hs2 : ∀ i ∈ is2, i ∈ vs1) (hv : ∀ i ∈ vs1, i ∈ vs) (h : tE E (fLc2 fi m vs gg p fi2 m2 vs1 gg2 p2 fe) σ H Q) :
    tLc2 (tI E fi m) (tG E is gg) (tT E p) (tI E fi2 m2) (tG E is2 gg2) (tT E p2) (tE E fe) vs vs1 σ H Q := by
  obtain ⟨R, zs, z, z', er, q, c⟩ := h
  obtain ⟨⟨z1, src⟩, q1, q2⟩ := Option.bind_eq_some_iff.mp q
  obtain ⟨ts, q3, q4⟩ := Option.bind_eq_some_iff.mp q2
  obtain ⟨z4, q5, q6⟩ := Option.bind_eq_some_iff.mp q4
  obtain ⟨z3, q7, q8⟩ := Option.bind_eq_some_iff.mp q5
  obtain ⟨q9, q10⟩ := ite_some' q6
  subst q10
  dsimp only at q3 q7 q8
  refine ⟨R, zs, z, z1, src, ts, er, q1, q3, fun J ws H1 hw e1 wd D hD => ?_⟩
  have e2 : ER E R (wipe σ vs) (ws ++ some (.ref D) :: zs) (upd H1 D (.lst [])) z3 := (ER.ins (ER.pown (l := z1.l) (k := z1.k) (t := .lst []) (o := .lst []) e1 hD ⟨[], rfl, .nil⟩) hw).zw q7
  generalize ts.length = n at wd q8
  refine ⟨fun i r H => i + r = n ∧ ∃ z, ER E R (wipe σ vs) (ws ++ some (.ref D) :: zs) H z ∧ lcO2 src m n gg (lcT m vs p fi2 m2 vs1 gg2 p2 fe) r z = some z4, ⟨n, by omega, z3, e2, q8⟩, ?_⟩
  rintro i r H ⟨hir, z, er, q⟩
  cases r with
  | zero =>
    obtain ⟨us, r5, r6⟩ := Option.bind_eq_some_iff.mp q
    obtain ⟨r7, r8⟩ := ite_some' r6
    subst r8
    have hi : i = n := by omega
    subst hi
    refine .inl ⟨wd.stop _ H z us er r5 (eq_of_beq r7), c _ H ?_⟩
    have e3 := er.drN
    rw [hw] at e3
    exact e3.areNo q9
  | succ r =>
    obtain ⟨us, q5, q6⟩ := Option.bind_eq_some_iff.mp q
    obtain ⟨q7, q8⟩ := ite_n q6
    obtain ⟨t, q9, q10⟩ := Option.bind_eq_some_iff.mp q8
    obtain ⟨z6, q11, q12⟩ := Option.bind_eq_some_iff.mp q10
    obtain ⟨z5, q13, q14⟩ := Option.bind_eq_some_iff.mp q11
    have hi : n - (r + 1) = i := by omega
    rw [hi] at q9
    refine .inr ⟨wd.go i _ H z us (by omega) er q5 (eq_of_beq q7), fun H => i + 1 + r = n ∧ ∃ z, ER E R (wipe σ vs) (ws ++ some (.ref D) :: zs) H z ∧ lcO2 src m n gg (lcT m vs p fi2 m2 vs1 gg2 p2 fe) r z = some z4, fun H' h => ⟨r, Nat.lt_succ_self r, h⟩, fun x H' y => ?_⟩
    refine ⟨R, _, _, z5, wd.yld i _ H z us x H' t (by omega) er q5 (eq_of_beq q7) q9 y, q13, fun σ2 H2 w2 e2 => ?_⟩
    have hwp : wipe σ2 vs = wipe σ vs := (w2 vs hs).trans (wipe_wipe vs)
    refine ⟨hwp, ?_⟩
    obtain ⟨⟨b, z7⟩, q15, q16⟩ := Option.bind_eq_some_iff.mp q14
    refine ⟨R, _, z5, b, z7, e2, q15, fun H3 e3 => ?_⟩
    cases b with
    | false =>
      have e4 : ER E R (wipe σ2 vs) _ H3 z6 := e3.zw q16
      rw [hwp] at e4
      exact ⟨by omega, z6, e4, q12⟩
    | true =>
      obtain ⟨⟨z8, src2⟩, q17, q18⟩ := Option.bind_eq_some_iff.mp q16
      obtain ⟨ts2, q19, q20⟩ := Option.bind_eq_some_iff.mp q18
      obtain ⟨z10, q21, q22⟩ := Option.bind_eq_some_iff.mp q20
      obtain ⟨z9, q23, q24⟩ := Option.bind_eq_some_iff.mp q21
      dsimp only at q19 q23 q24
      refine ⟨R, _, z7, z8, src2, ts2, e3, q17, q19, fun J1 ws2 H4 hw2 e4 wd2 => ?_⟩
      have e5 : ER E R (wipe σ2 vs1) (ws2 ++ (ws ++ some (.ref D) :: zs)) H4 z9 := e4.zw q23
      generalize ts2.length = n2 at wd2 q24
      refine ⟨fun j k H => j + k = n2 ∧ ∃ z, ER E R (wipe σ2 vs1) (ws2 ++ (ws ++ some (.ref D) :: zs)) H z ∧ lcI src2 m2 m n2 vs1 gg2 p2 fe k z = some z10, ⟨n2, by omega, z9, e5, q24⟩, ?_⟩
      rintro j k H ⟨hjk, z, er, q⟩
      cases k with
      | zero =>
        obtain ⟨us, r5, r6⟩ := Option.bind_eq_some_iff.mp q
        obtain ⟨r7, r8⟩ := ite_some' r6
        subst r8
        have hi : j = n2 := by omega
        subst hi
        refine .inl ⟨wd2.stop _ H z us er r5 (eq_of_beq r7), by omega, z6, ?_, q12⟩
        have e6 := er.drN
        rw [hw2] at e6
        have e7 : ER E R (wipe (wipe σ2 vs1) vs) _ H z6 := e6.zw q22
        rw [wipe_sub hv, hwp] at e7
        exact e7
      | succ k =>
        obtain ⟨us, q5, q6⟩ := Option.bind_eq_some_iff.mp q
        obtain ⟨q7, q8⟩ := ite_n q6
        obtain ⟨t, q9, q10⟩ := Option.bind_eq_some_iff.mp q8
        obtain ⟨z11, q11, q12'⟩ := Option.bind_eq_some_iff.mp q10
        obtain ⟨z12, q13, q14⟩ := Option.bind_eq_some_iff.mp q11
        have hj : n2 - (k + 1) = j := by omega
        rw [hj] at q9
        refine .inr ⟨wd2.go j _ H z us (by omega) er q5 (eq_of_beq q7), fun H => j + 1 + k = n2 ∧ ∃ z, ER E R (wipe σ2 vs1) (ws2 ++ (ws ++ some (.ref D) :: zs)) H z ∧ lcI src2 m2 m n2 vs1 gg2 p2 fe k z = some z10, fun H' h => ⟨k, Nat.lt_succ_self k, h⟩, fun x H' y => ?_⟩
        refine ⟨R, _, _, z12, wd2.yld j _ H z us x H' t (by omega) er q5 (eq_of_beq q7) q9 y, q13, fun σ3 H5 w3 e6 => ?_⟩
        have hwp3 : wipe σ3 vs1 = wipe σ2 vs1 := (w3 vs1 hs2).trans (wipe_wipe vs1)
        refine ⟨hwp3, ?_⟩
        obtain ⟨⟨b, z13⟩, q15, q16⟩ := Option.bind_eq_some_iff.mp q14
        refine ⟨R, _, z12, b, z13, e6, q15, fun H6 e7 => ?_⟩
        cases b with
        | false =>
          have e8 : ER E R (wipe σ3 vs1) _ H6 z11 := e7.zw q16
          rw [hwp3] at e8
          exact ⟨by omega, z11, e8, q12'⟩
        | true =>
          obtain ⟨z14, q17, q18⟩ := Option.bind_eq_some_iff.mp q16
          obtain ⟨⟨ty, z15⟩, q19, q20⟩ := Option.bind_eq_some_iff.mp q17
          obtain ⟨z16, q21, q22⟩ := Option.bind_eq_some_iff.mp q19
          refine ⟨R, _, z13, z16, e7, q21, fun y H7 e8 => ?_⟩
          obtain ⟨_, h1, e9, r5⟩ := e8.fz q22
          cases h1
          rw [← List.append_assoc] at e9 r5
          obtain ⟨acc, h6, h7, e10⟩ := ER.app (ws := ws2 ++ ws) e9 (by rw [List.length_append, hw, hw2]) r5 q20
          rw [List.append_assoc] at e10
          refine ⟨acc, h6, h7, by omega, z11, ?_, q12'⟩
          have e11 : ER E R (wipe σ3 vs1) _ _ z11 := e10.zw q18
          rwa [hwp3] at e11
theorem ed_lc2 {is is2 vs1 : List Nat} {fi fi2 : IF} {m m2 : Nat} {gg gg2 : GF} {tg iter tg1 iter1 : Expr} {ifs ifs1 : List Expr} {scope : Scope} {own : List (Str × Nat)} (hc : X.calm = true) (hN : X.N.Nodup) (hi : ID X E tg iter fi m) (ok : BlkOk X.N X.env.scope scope own) (hv : ∀ i ∈ vs1, i ∈ own.map (·.2))
    (hg : ∀ (s : Shared) (H : Hp) (C : Addr) (cl : List (Str × Addr)) (fp : List Addr), GD (X.blk s H scope (compEnvC scope cl C X.env) fp) E tg is gg) (ht : ∀ (s : Shared) (H : Hp) (C : Addr) (cl : List (Str × Addr)) (fp : List Addr), TsD (X.blk s H scope (compEnvC scope cl C X.env) fp) E ifs p)
    (hi1 : ∀ (s : Shared) (H : Hp) (C : Addr) (cl : List (Str × Addr)) (fp : List Addr), ID (X.blk s H scope (compEnvC scope cl C X.env) fp) E tg1 iter1 fi2 m2)
    (hg1 : ∀ (s : Shared) (H : Hp) (C : Addr) (cl : List (Str × Addr)) (fp : List Addr), GD (X.blk s H scope (compEnvC scope cl C X.env) fp) E tg1 is2 gg2) (ht1 : ∀ (s : Shared) (H : Hp) (C : Addr) (cl : List (Str × Addr)) (fp : List Addr), TsD (X.blk s H scope (compEnvC scope cl C X.env) fp) E ifs1 p2)
    (he : ∀ (s : Shared) (H : Hp) (C : Addr) (cl : List (Str × Addr)) (fp : List Addr), ED (X.blk s H scope (compEnvC scope cl C X.env) fp) E elt fe) (hs : ∀ i ∈ is, i ∈ own.map (·.2)) (hs2 : ∀ i ∈ is2, i ∈ vs1) (hf : ∀ x, foldedSetIterable iter X.env x = pure x := by intro _; rfl) (hf1 : ∀ env x, foldedSetIterable iter1 env x = pure x := by intro _ _; rfl) :
    ED X E (.ListComp elt [⟨tg, iter, ifs, 0⟩, ⟨tg1, iter1, ifs1, 0⟩] scope pos) (fLc2 fi m (own.map (·.2)) gg p fi2 m2 vs1 gg2 p2 fe) :=
  ⟨pe_imp (pe_lc2 (vs1 := vs1) hc hN hi.pi ok hv (fun s H C cl fp => (hg s H C cl fp).pg) (fun s H C cl fp => (ht s H C cl fp).pts) (fun s H C cl fp => (hi1 s H C cl fp).pi) (fun s H C cl fp => (hg1 s H C cl fp).pg) (fun s H C cl fp => (ht1 s H C cl fp).pts) (fun s H C cl fp => (he s H C cl fp).pe) hf hf1) fun σ H Q h => ed_lc2D hs hs2 hv h⟩
theorem sd_setLc2 {i : Nat} {y : Str} {py spos : Pos} {is is2 vs1 : List Nat} {fi fi2 : IF} {m m2 : Nat} {gg gg2 : GF} {tg iter tg1 iter1 : Expr} {ifs ifs1 : List Expr} {scope : Scope} {own : List (Str × Nat)} (hc : X.calm = true) (hN : X.N.Nodup) (hy : X.N[i]? = some y) (hyl : X.env.scope.names.lookup y = some .local)
    (hsw : swapsWith (.ListComp elt [⟨tg, iter, ifs, 0⟩, ⟨tg1, iter1, ifs1, 0⟩] scope pos) (some (.Name y py)) spos.line X.env = pure true) (hi : ID X E tg iter fi m) (ok : BlkOk X.N X.env.scope scope own) (hv : ∀ i ∈ vs1, i ∈ own.map (·.2))
    (hg : ∀ (s : Shared) (H : Hp) (C : Addr) (cl : List (Str × Addr)) (fp : List Addr), GD (X.blk s H scope (compEnvC scope cl C X.env) fp) E tg is gg) (ht : ∀ (s : Shared) (H : Hp) (C : Addr) (cl : List (Str × Addr)) (fp : List Addr), TsD (X.blk s H scope (compEnvC scope cl C X.env) fp) E ifs p)
    (hi1 : ∀ (s : Shared) (H : Hp) (C : Addr) (cl : List (Str × Addr)) (fp : List Addr), ID (X.blk s H scope (compEnvC scope cl C X.env) fp) E tg1 iter1 fi2 m2)
    (hg1 : ∀ (s : Shared) (H : Hp) (C : Addr) (cl : List (Str × Addr)) (fp : List Addr), GD (X.blk s H scope (compEnvC scope cl C X.env) fp) E tg1 is2 gg2) (ht1 : ∀ (s : Shared) (H : Hp) (C : Addr) (cl : List (Str × Addr)) (fp : List Addr), TsD (X.blk s H scope (compEnvC scope cl C X.env) fp) E ifs1 p2)
    (he : ∀ (s : Shared) (H : Hp) (C : Addr) (cl : List (Str × Addr)) (fp : List Addr), ED (X.blk s H scope (compEnvC scope cl C X.env) fp) E elt fe) (hs : ∀ i ∈ is, i ∈ own.map (·.2)) (hs2 : ∀ i ∈ is2, i ∈ vs1) (hf : ∀ x, foldedSetIterable iter X.env x = pure x := by intro _; rfl) (hf1 : ∀ env x, foldedSetIterable iter1 env x = pure x := by intro _ _; rfl) :
    SD X E (.Assign [.Name y py] (.ListComp elt [⟨tg, iter, ifs, 0⟩, ⟨tg1, iter1, ifs1, 0⟩] scope pos) spos) (sPut (fLc2 fi m (own.map (·.2)) gg p fi2 m2 vs1 gg2 p2 fe) (put i)) :=
  ⟨ps_imp (ps_setLc2 (i := i) (vs1 := vs1) hc hN hy hyl hsw hi.pi ok hv (fun s H C cl fp => (hg s H C cl fp).pg) (fun s H C cl fp => (ht s H C cl fp).pts) (fun s H C cl fp => (hi1 s H C cl fp).pi) (fun s H C cl fp => (hg1 s H C cl fp).pg) (fun s H C cl fp => (ht1 s H C cl fp).pts) (fun s H C cl fp => (he s H C cl fp).pe) hf hf1) fun D σ H ⟨R, zs, z, fl, er, q, c⟩ => by
    obtain ⟨z2, q0, q2⟩ := Option.map_eq_some_iff.mp q
    obtain ⟨z1, q1, q3⟩ := Option.bind_eq_some_iff.mp q0
    cases q2
    exact ed_lc2D hs hs2 hv ⟨R, zs, z, z1, er, q1, fun v H1 e1 => c _ H1 (e1.put q3)⟩⟩
end
end Fn
set_option Elab.async false
set_option linter.all false
set_option maxRecDepth 100000
set_option maxHeartbeats 4000000
/-! own layer, data: zip, a tuple some times -/
namespace Fn
open PySem PySem.Spec PyProof.Rows L2 Rw
theorem rep_mx {E : Ev} {M M' : Addr → Prop} {H : Hp} {v : V} {t : T} (h : Rep E M H v t) (k : ∀ a, M' a ↔ M a) : Rep E M' H v t := h.an fun a z => (k a).mp z
theorem ER.top2 {E : Ev} {R : Rc} {σ zs : List (Option V)} {H : Hp} {v w : Option V} {z z1 z2 : Z} {t : T} (e : ER E R σ (v :: w :: zs) H z) (q : Fn.swp z = some z1) (q2 : Fn.pp z1 = some (t, z2)) : ∃ x, w = some x ∧ Seen E (Mz R σ (v :: w :: zs) z) H x t := by
  have e2 := e.swp q
  obtain ⟨x, h1, h2⟩ := e2.top q2
  refine ⟨x, h1, h2.an fun a m => ?_⟩
  obtain ⟨l, k⟩ := z
  cases k with
  | nil => cases q
  | cons s k =>
    cases k with
    | nil => cases q
    | cons u k =>
      cases q
      refine (mx_perm (P := Pz σ (v :: w :: zs) ⟨l, s :: u :: k⟩) (P' := Pz σ (w :: v :: zs) ⟨l, u :: s :: k⟩) ?_ a).mp m
      exact (List.Perm.swap ..).append_left _
def zipT : List T → List T → List T
  | x :: xs, y :: ys => .tup [x, y] :: zipT xs ys
  | _, _ => []
theorem zipT_len : ∀ {xs ys : List T}, (zipT xs ys).length = min xs.length ys.length
  | [], ys => by unfold zipT; simp
  | x :: xs, [] => by unfold zipT; simp
  | x :: xs, y :: ys => by unfold zipT; rw [List.length_cons, zipT_len, List.length_cons, List.length_cons]; omega
theorem zipT_at : ∀ {xs ys : List T} {i : Nat} {t : T}, (zipT xs ys)[i]? = some t → ∃ x y, xs[i]? = some x ∧ ys[i]? = some y ∧ t = .tup [x, y]
  | [], ys, i, t, h => by unfold zipT at h; simp at h
  | x :: xs, [], i, t, h => by unfold zipT at h; simp at h
  | x :: xs, y :: ys, i, t, h => by
    unfold zipT at h
    cases i with
    | zero => simp at h; exact ⟨x, y, rfl, rfl, h.symm⟩
    | succ i => simpa using zipT_at (i := i) (by simpa using h)
def two (z : Z) : Option (T × T) := (pp z).bind fun y => (swp z).bind fun z1 => (pp z1).map fun x => (x.1, y.1)
def scZL : Sc := fun z => match two z with
  | some (.lst xs, .lst ys) => some (zipT xs ys)
  | _ => none
def scZT : Sc := fun z => match two z with
  | some (.tup xs, .tup ys) => some (zipT xs ys)
  | _ => none
def fZip (f : EF) : IF := fun z => (f z).bind fun z1 => match two z1 with
  | some (.lst _, .lst _) => some (z1, scZL)
  | some (.tup _, .tup _) => some (z1, scZT)
  | _ => none
theorem ER.two {E : Ev} {R : Rc} {σ zs : List (Option V)} {H : Hp} {v w : Option V} {z : Z} {t u : T} (e : ER E R σ (v :: w :: zs) H z) (q : Fn.two z = some (t, u)) : ∃ x y, w = some x ∧ v = some y ∧ Seen E (Mz R σ (v :: w :: zs) z) H x t ∧ Seen E (Mz R σ (v :: w :: zs) z) H y u := by
  obtain ⟨⟨y, z1⟩, q1, q2⟩ := Option.bind_eq_some_iff.mp q
  obtain ⟨z2, q3, q4⟩ := Option.bind_eq_some_iff.mp q2
  obtain ⟨⟨x, z3⟩, q5, q6⟩ := Option.map_eq_some_iff.mp q4
  cases q6
  obtain ⟨a, h1, h2⟩ := e.top q1
  obtain ⟨b, h3, h4⟩ := e.top2 q3 q5
  exact ⟨b, a, h3, h1, h4, h2⟩
section
variable {X : Cx} {E : Ev} {e a b c : Expr} {es : List Expr} {pos pos' p2 : Pos} {f g : EF}
theorem ER.zipI {R : Rc} {σ zs : List (Option V)} {H : Hp} {z : Z} {xs ys : List V} {ts us : List T} {i : Nat} {p : Addr} {x y : V} {t : T} (er : ER E R σ zs H z) (hx : RepAll E (Mz R σ zs z) H xs ts) (hy : RepAll E (Mz R σ zs z) H ys us) (ht : (zipT ts us)[i]? = some t) (n : H p = none) (h1 : xs[i]? = some x) (h2 : ys[i]? = some y) :
    ER E R σ (some (.ref p) :: zs) (upd H p (.tup [x, y])) ⟨z.l, .val t :: z.k⟩ := by
  obtain ⟨t1, t2, h3, h4, rfl⟩ := zipT_at ht
  obtain ⟨u1, h5, h6⟩ := hx.at h1
  obtain ⟨u2, h7, h8⟩ := hy.at h2
  rw [h3] at h5; cases h5
  rw [h4] at h7; cases h7
  exact er.pair n h6 h8
theorem id_zip [EX X E] {tg : Expr} (hq : ∀ {t : TA}, PA X [a, b] t → PI X tg e (RZ.iZipA X.K t)) (ha : AD X E [a, b] f) : ID X E tg e (fZip f) 2 := ⟨pi_imp (hq ha.pa) fun σ H Rk ⟨R, zs, z, z1, src, ts, er, q, qs, c⟩ => by
  obtain ⟨z0, q1, q2⟩ := Option.bind_eq_some_iff.mp q
  refine ⟨R, zs, z, z0, er, q1, fun vs H1 hl e1 => ?_⟩
  obtain ⟨v, v', rfl⟩ := ws2 hl
  have e1' : ER E R σ (some v' :: some v :: zs) H1 z0 := by simpa using e1
  split at q2
  · rename_i xs0 ys0 h2
    cases q2
    obtain ⟨x, y, hx, hy, rx, ry⟩ := e1'.two h2
    cases hx; cases hy
    obtain ⟨a, xs, rfl, r1, r2⟩ := rx.lst
    obtain ⟨b, ys, rfl, r3, r4⟩ := ry.lst
    have hts : ts = zipT xs0 ys0 := by
      unfold scZL at qs
      rw [h2] at qs
      cases qs; rfl
    have hn : ts.length = min xs.length ys.length := by rw [hts, zipT_len, r2.len, r4.len]
    refine ⟨a, b, xs, ys, rfl, .inl ⟨.inl r1, .inl r3, c _ [some (.ref b), some (.ref a)] H1 rfl e1' ⟨fun {R zs} i σ H z us hi e q hl => ?_, fun {R zs} σ H z us e q hl => ?_, fun {R zs} i σ H z us x H' t hi e q hl ht y => ?_⟩⟩⟩
    all_goals
      unfold scZL at q
      split at q
      · rename_i xs1 ys1 h3
        cases q
        obtain ⟨x', y', hx, hy, rx, ry⟩ := ER.two (zs := zs) e h3
        cases hx; cases hy
        obtain ⟨_, xs2, hh, r5, r6⟩ := rx.lst
        cases hh
        obtain ⟨_, ys2, hh, r7, r8⟩ := ry.lst
        cases hh
        rw [zipT_len] at hl
        have hn2 : ts.length = min xs2.length ys2.length := by rw [← hl, r6.len, r8.len]
        have w := walk_zip (K := X.K) (a := a) (b := b) (xs := xs2) (ys := ys2) hn2
        first
          | exact w.goes i H hi ⟨.inl r5, .inl r7⟩
          | exact w.stops H ⟨.inl r5, .inl r7⟩
          | (obtain ⟨p, x1, y1, rfl, np, rfl, k1, k2⟩ := w.yields i H x H' hi ⟨.inl r5, .inl r7⟩ y
             exact ER.zipI e r6 r8 ht np k1 k2)
      · cases q
  · rename_i xs0 ys0 h2
    cases q2
    obtain ⟨x, y, hx, hy, rx, ry⟩ := e1'.two h2
    cases hx; cases hy
    obtain ⟨a, xs, rfl, r1, r2⟩ := rx.tup
    obtain ⟨b, ys, rfl, r3, r4⟩ := ry.tup
    have hts : ts = zipT xs0 ys0 := by
      unfold scZT at qs
      rw [h2] at qs
      cases qs; rfl
    refine ⟨a, b, xs, ys, rfl, .inr ⟨EX.t r1, EX.t r3, c _ [some (.ref b), some (.ref a)] H1 rfl e1' ⟨fun {R zs} i σ H z us hi e q hl => ?_, fun {R zs} σ H z us e q hl => ?_, fun {R zs} i σ H z us x H' t hi e q hl ht y => ?_⟩⟩⟩
    all_goals
      unfold scZT at q
      split at q
      · rename_i xs1 ys1 h3
        cases q
        obtain ⟨x', y', hx, hy, rx, ry⟩ := ER.two (zs := zs) e h3
        cases hx; cases hy
        obtain ⟨_, xs2, hh, r5, r6⟩ := rx.tup
        cases hh
        obtain ⟨_, ys2, hh, r7, r8⟩ := ry.tup
        cases hh
        rw [zipT_len] at hl
        have hn2 : ts.length = min xs2.length ys2.length := by rw [← hl, r6.len, r8.len]
        have r5' : SqT X.K H a xs2 := EX.t r5
        have r7' : SqT X.K H b ys2 := EX.t r7
        first
          | exact ⟨xs2, ys2, xs2[i]'(by omega), ys2[i]'(by omega), r5', r7', List.getElem?_eq_getElem _, List.getElem?_eq_getElem _⟩
          | exact ⟨xs2, ys2, r5', r7', by omega⟩
          | (obtain ⟨p, x1, y1, rfl, np, rfl, k1, k2⟩ := y
             exact ER.zipI e r6 r8 ht np (k1 _ r5') (k2 _ r7'))
      · cases q
  · cases q2⟩
end
end Fn
set_option Elab.async false
set_option linter.all false
set_option maxRecDepth 100000
set_option maxHeartbeats 4000000
/-! own layer, data: a tuple some times -/
namespace Fn
open PySem PySem.Spec PyProof.Rows L2 Rw
theorem tuple_mul0 (l : Addr) (items : Array Value) (n : Nat) (dd : Option Addr) (sl : Array (Option Value)) (x : Int) (u : Tok) (c0 : (decide (x < -(2 ^ 63)) || decide (x ≥ 2 ^ 63)) = false) (c1 : (items.isEmpty || x == 1) = false) (c2 : (decide (x ≤ 0) || items.isEmpty) = true) :
    Meets (Builtin.«tuple.__mul__» ⟨[.ref l, .int x u], []⟩) (fun _ R s => s.heap.get? l = some { cls := .type "tuple", dict := dd, data := .seq items n, slots := sl } ∧
      R (.ok (.ret (Value.ref s.heap.objs.size))) { s with heap := s.heap.push { cls := Value.type "tuple", data := Data.seq #[] }, toks := s.toks }) :=
  .of_wp fun prog w A R s h => by
    obtain ⟨hp, g, d, tk, os⟩ := s
    obtain ⟨hl, h⟩ := h
    have f1 := AutoSeq1.idx_int
    have hsz : (#[] : Array Value).size ≤ sizeLine := Nat.zero_le _
    wp_walk using wpAny_loadPart' hl
    repeat (first
      | (refine wpAny_ite_false (decide_eq_false (by rw [c0]; exact Bool.false_ne_true)) ?_; wp_walk using wpAny_loadPart' hl)
      | (refine wpAny_ite_false (decide_eq_false (by rw [c1]; exact Bool.false_ne_true)) ?_; wp_walk using wpAny_loadPart' hl)
      | (refine wpAny_ite_true (decide_eq_true c2) ?_; wp_walk using wpAny_loadPart' hl)
      | (refine wpAny_ite_false (decide_eq_false (Nat.not_lt.mpr hsz)) ?_; wp_walk using wpAny_loadPart' hl))
    exact ⟨_, rfl, h⟩
theorem tuple_mul1 (l : Addr) (items : Array Value) (n : Nat) (dd : Option Addr) (sl : Array (Option Value)) (x : Int) (u : Tok) (c0 : (decide (x < -(2 ^ 63)) || decide (x ≥ 2 ^ 63)) = false) (c1 : (items.isEmpty || x == 1) = true) :
    Meets (Builtin.«tuple.__mul__» ⟨[.ref l, .int x u], []⟩) (fun _ R s => s.heap.get? l = some { cls := .type "tuple", dict := dd, data := .seq items n, slots := sl } ∧ R (.ok (.ret (Value.ref l))) s) :=
  .of_wp fun prog w A R s h => by
    obtain ⟨hp, g, d, tk, os⟩ := s
    obtain ⟨hl, h⟩ := h
    have f1 := AutoSeq1.idx_int
    wp_walk using wpAny_loadPart' hl
    repeat (first
      | (refine wpAny_ite_false (decide_eq_false (by rw [c0]; exact Bool.false_ne_true)) ?_; wp_walk using wpAny_loadPart' hl)
      | (refine wpAny_ite_true (decide_eq_true c1) ?_; wp_walk using wpAny_loadPart' hl)
      | (refine wpAny_ite_true (by simp) ?_; wp_walk using wpAny_loadPart' hl))
    exact ⟨_, rfl, h⟩
def rRepS (K : PySem.W.Frag) : R2 := fun x y H Q => ∃ l k xs, x = .ref l ∧ y = .int k ∧ SqT K H l xs ∧ xs ≠ [] ∧ -1000 ≤ k ∧ k ≤ 1000 ∧ xs.length ≤ 1000 ∧ (k ≤ 0 → ∀ p, H p = none → Q (.ref p) (upd H p (.tup []))) ∧ (k = 1 → Q (.ref l) H) ∧ (2 ≤ k → ∀ p, H p = none → Q (.ref p) (upd H p (.tup (List.replicate k.toNat xs).flatten)))
section
variable {X : Cx} {E : Ev} [ex : EX X E]
theorem op_repS : OpR X (binaryOp .Mult) (rRepS X.K) := by
  intro pins s σ H x y v u Q I rx ry h
  obtain ⟨l, k, xs, rfl, rfl, hT, hne, h1, h2, hz, q0, q1, q2⟩ := h
  by_cases hk2 : 2 ≤ k
  · exact op_repT pins s σ H _ _ v u Q I rx ry ⟨l, k, xs, rfl, rfl, hT, hne, hk2, h2, hz, q2 hk2⟩
  cases rx
  obtain ⟨t, rfl⟩ := ry
  obtain ⟨its, r, ⟨⟨cls, dd, data, sl⟩, ho, hc, n, hd⟩, hs⟩ := I.tuple hT
  simp only at hc hd
  subst hc hd
  have hle : its.length = xs.length := r.length.symm
  have hn : its ≠ [] := fun e => hne (by
    rw [e] at hle
    exact List.eq_nil_of_length_eq_zero hle.symm)
  have hi : its.toArray.isEmpty = false := by
    cases its with
    | nil => exact absurd rfl hn
    | cons a b => rfl
  have c0 : (decide (k < -(2 ^ 63)) || decide (k ≥ 2 ^ 63)) = false := by
    rw [decide_eq_false (by omega), decide_eq_false (by omega)] <;> rfl
  by_cases hk1 : k = 1
  · have c1 : (its.toArray.isEmpty || k == 1) = true := by rw [hk1, hi]; rfl
    refine wpAny_binaryOp_repeat_ref (T := "tuple") (U := "int") (by decide) ⟨_, ho, rfl⟩ (fun s' => typeIs_int s' k t) noFill_tuple_mul F.fills_int_mul F.slot_int_rmul repeat_tuple F.slot_int_index.lookup
      (call_meets F.slot_int_rmul (typeIs_int s k t) F.entry_int_rmul (F.args_int_rmul_2 _ _) (int_rmul_tuple k t l its.toArray n dd sl)
        ⟨ho, rfl, ⟨_, ho, rfl⟩, call_meets F.slot_tuple_mul ⟨_, ho, rfl⟩ F.entry_tuple_mul (F.args_tuple_mul_2 _ _) (tuple_mul1 l its.toArray n dd sl k t c0 c1) ⟨ho, ?_⟩⟩)
    exact ⟨.ref l, H, I, rfl, q1 hk1⟩
  · have c1 : (its.toArray.isEmpty || k == 1) = false := by
      rw [hi, Bool.false_or]
      exact beq_eq_false_iff_ne.mpr hk1
    have c2 : (decide (k ≤ 0) || its.toArray.isEmpty) = true := by
      rw [decide_eq_true (by omega)]; rfl
    refine wpAny_binaryOp_repeat_ref (T := "tuple") (U := "int") (by decide) ⟨_, ho, rfl⟩ (fun s' => typeIs_int s' k t) noFill_tuple_mul F.fills_int_mul F.slot_int_rmul repeat_tuple F.slot_int_index.lookup
      (call_meets F.slot_int_rmul (typeIs_int s k t) F.entry_int_rmul (F.args_int_rmul_2 _ _) (int_rmul_tuple k t l its.toArray n dd sl)
        ⟨ho, rfl, ⟨_, ho, rfl⟩, call_meets F.slot_tuple_mul ⟨_, ho, rfl⟩ F.entry_tuple_mul (F.args_tuple_mul_2 _ _) (tuple_mul0 l its.toArray n dd sl k t c0 c1 c2) ⟨ho, ?_⟩⟩)
    refine ⟨.ref s.heap.objs.size, _, I.laid (t' := s.toks) (o := .tup []) (fun b ob q => Heap.get?_push_of_some _ q) (Nat.le_refl _) ?_, rfl, q0 (by omega) _ (I.hok.fresh (Nat.le_refl _))⟩
    exact ⟨Nat.zero_le _, [], .nil, IsTup.new _ _⟩
def repT (ts : List T) (n : Nat) : List T := (List.replicate n ts).flatten
theorem rep_flat {M : Addr → Prop} {H : Hp} {xs : List V} {ts : List T} (h : RepAll E M H xs ts) : ∀ n, RepAll E M H (List.replicate n xs).flatten (repT ts n)
  | 0 => .nil
  | n + 1 => by unfold repT; rw [List.replicate_succ, List.replicate_succ]; exact h.app (rep_flat h n)
def oMulT : O2
  | .tup ts, .int k => if (!ts.isEmpty && decide (-1000 ≤ k) && decide (k ≤ 1000) && Nat.ble ts.length 1000) = true then some (.val (.tup (repT ts k.toNat))) else none
  | _, _ => none
theorem ok_mulT : Ok2 E (rRepS X.K) oMulT := fun M H x y tx ty s Q k hx hy ho c => by
  unfold oMulT at ho
  split at ho
  · rename_i ts n
    obtain ⟨h1, h2⟩ := ite_some' ho
    subst h2
    simp only [Bool.and_eq_true, decide_eq_true_eq, Bool.not_eq_true'] at h1
    obtain ⟨⟨⟨h1, h2⟩, h3⟩, h4⟩ := h1
    obtain ⟨a, xs, rfl, r1, r2⟩ := hx.tup
    cases hy.int
    refine ⟨a, n, xs, rfl, rfl, EX.t r1, fun e => ?_, h2, h3, by rw [r2.len]; exact Nat.le_of_ble_eq_true h4, fun hn p hp => ?_, fun hn => ?_, fun hn p hp => c _ _ (res_t k hp (rep_flat r2 _))⟩
    · rw [(nil_iff r2).mp e] at h1; cases h1
    · have e : n.toNat = 0 := by omega
      rw [e] at c
      exact c _ _ (res_t k hp .nil)
    · subst hn
      have e : repT ts (1 : Int).toNat = ts := by unfold repT; simp
      rw [e] at c
      exact c _ _ (res_v hx.repT)
  · cases ho
variable {e a : Expr} {pos : Pos} {f : EF}
def fNeg (f : EF) : EF := fun z => (f z).bind fun z1 => match pp z1 with
  | some (.int i, z2) => some ⟨z2.l, .val (.int (-i)) :: z2.k⟩
  | _ => none
theorem ed_neg (ha : ED X E a f) : ED X E (.UnaryOp .USub a pos) (fNeg f) := ⟨pe_imp (pe_un un_neg ha.pe) fun σ H Q ⟨R, zs, z, z', er, q, c⟩ => by
  obtain ⟨z1, q1, q2⟩ := Option.bind_eq_some_iff.mp q
  split at q2
  · rename_i i z2 hp
    cases q2
    refine ⟨R, zs, z, z1, er, q1, fun v H1 e1 => ?_⟩
    obtain ⟨w, h1, e2, r⟩ := e1.pp hp
    cases h1; cases r.int
    exact ⟨i, rfl, c _ _ (ER.pval (l := z2.l) (k := z2.k) e2 (.int _))⟩
  · cases q2⟩
end
end Fn
set_option Elab.async false
set_option linter.all false
set_option maxRecDepth 100000
set_option maxHeartbeats 4000000
/-! own layer, data: dicts whose keys are tuples -/
namespace Fn
open PySem PySem.Spec PyProof.Rows L2 Rw
theorem keys_cons {t : T} {ts : List T} {ks : List NestedKey} (h : T.keys (t :: ts) = some ks) : ∃ k ks1, ks = k :: ks1 ∧ t.key = some k ∧ T.keys ts = some ks1 := by
  unfold T.keys at h
  split at h
  · cases h; exact ⟨_, _, rfl, ‹_›, ‹_›⟩
  · cases h
section
variable {X : Cx} {E : Ev} [ex : EX X E] {M : Addr → Prop} {H : Hp} {pins : List (Addr × Obj)} {σ : L2.St} {s : Shared}
mutual
theorem rep_nested (I : Inv X pins σ H s) : ∀ (t : T) (v : V) (u : Value) (k : NestedKey), Rep E M H v t → RelV v u → t.key = some k → NestedIs s.heap k u
  | .non, _, _, _, h, r, e => by cases h; cases r; cases e; exact .none
  | .bl b, _, _, _, h, r, e => by cases h; cases r; cases e; exact .bool rfl
  | .int i, _, _, _, h, r, e => by cases h; obtain ⟨t, rfl⟩ := r; cases e; exact .int _ _
  | .str x, _, _, _, h, r, e => by cases h; obtain ⟨t, rfl⟩ := r; cases e; exact .text _ _
  | .tup ts, v, u, k, h, r, e => by
    unfold T.key at e
    obtain ⟨ks, e1, rfl⟩ := Option.map_eq_some_iff.mp e
    obtain ⟨a, xs, rfl, r1, r2⟩ := (show Seen E M H v (.tup ts) from .inl h).tup
    obtain ⟨its, rv, ⟨o, ho, hc, n, hd⟩, hz⟩ := I.tuple (EX.t r1)
    cases r
    exact .tup ho hc hd (reps_nested I ts xs its ks r2 rv e1)
  | .lst _, _, _, _, _, _, e => by cases e
  | .scr _, _, _, _, _, _, e => by cases e
  | .obj _ _ _, _, _, _, _, _, e => by cases e
  | .dic _ _, _, _, _, _, _, e => by cases e
  | .rng _ _, _, _, _, _, _, e => by cases e
theorem reps_nested (I : Inv X pins σ H s) : ∀ (ts : List T) (vs : List V) (us : List Value) (ks : List NestedKey), RepAll E M H vs ts → Vals vs us → T.keys ts = some ks → NestedAll s.heap ks us
  | [], _, _, _, h, r, e => by cases h; cases r; unfold T.keys at e; cases e; exact .nil
  | t :: ts, _, _, _, h, r, e => by
    obtain ⟨k, ks1, rfl, e1, e2⟩ := keys_cons e
    cases h with
    | cons h1 h2 =>
      cases r with
      | cons r1 r2 => exact .cons (rep_nested I t _ _ _ h1 r1 e1) (reps_nested I ts _ _ _ h2 r2 e2)
end
/-- an entry's value -/
def DRel (x : NestedKey × Addr × V) (y : NestedKey × Addr × Value) : Prop := x.1 = y.1 ∧ x.2.1 = y.2.1 ∧ RelV x.2.2 y.2.2
theorem ents_of {w : World} {prog : Program} : ∀ {xs : List (NestedKey × Addr × V)} {es : List DictEntry}, Paired (fun (x : NestedKey × Addr × V) (e : DictEntry) => e.hash = x.1.hash w ∧ e.key = .ref x.2.1 ∧ RelV x.2.2 e.val) xs es → ∃ ys, es = ys.map (entryOfKey (nestedKind prog w)) ∧ Paired DRel xs ys
  | _, _, .nil => ⟨[], rfl, .nil⟩
  | x :: xs, e :: es, .cons ⟨h1, h2, h3⟩ t => by
    obtain ⟨ys, e1, e2⟩ := ents_of t
    refine ⟨(x.1, x.2.1, e.val) :: ys, ?_, .cons ⟨rfl, rfl, h3⟩ e2⟩
    rw [List.map_cons, ← e1]
    congr 1
    obtain ⟨a, b, c⟩ := e
    dsimp only at h1 h2
    rw [h1, h2]; rfl
theorem ents_to {w : World} {prog : Program} : ∀ {xs : List (NestedKey × Addr × V)} {ys : List (NestedKey × Addr × Value)}, Paired DRel xs ys → Paired (fun (x : NestedKey × Addr × V) (e : DictEntry) => e.hash = x.1.hash w ∧ e.key = .ref x.2.1 ∧ RelV x.2.2 e.val) xs (ys.map (entryOfKey (nestedKind prog w)))
  | _, _, .nil => .nil
  | x :: xs, y :: ys, .cons ⟨h1, h2, h3⟩ t => .cons ⟨by rw [h1]; rfl, by rw [h2]; rfl, h3⟩ (ents_to t)
theorem dkeys {xs : List (NestedKey × Addr × V)} {ys : List (NestedKey × Addr × Value)} (h : Paired DRel xs ys) : xs.map (·.1) = ys.map (·.1) ∧ (∀ y ∈ ys, ∃ x ∈ xs, DRel x y) := by
  induction h with
  | nil => exact ⟨rfl, fun y h => by cases h⟩
  | cons r t ih =>
    refine ⟨by rw [List.map_cons, List.map_cons, ih.1, r.1], fun y hy => ?_⟩
    rcases List.mem_cons.mp hy with rfl | hy
    · exact ⟨_, List.mem_cons_self, r⟩
    · obtain ⟨x, h1, h2⟩ := ih.2 y hy
      exact ⟨x, List.mem_cons_of_mem _ h1, h2⟩
theorem key_of {ts : List T} : ∀ {xs : List (NestedKey × Addr × V)}, T.keys ts = some (xs.map (·.1)) → RepAll E M H (xs.map fun x => .ref x.2.1) ts → ∀ x ∈ xs, ∃ t, t.key = some x.1 ∧ Rep E M H (.ref x.2.1) t := by
  induction ts with
  | nil =>
    intro xs _ h x hx
    cases xs with
    | nil => cases hx
    | cons y ys => cases h
  | cons t ts ih =>
    intro xs hk h x hx
    cases xs with
    | nil => cases hx
    | cons y ys =>
      obtain ⟨k, ks1, e, e1, e2⟩ := keys_cons hk
      cases e
      cases h with
      | cons h1 h2 =>
        rcases List.mem_cons.mp hx with rfl | hx
        · exact ⟨t, e1, h1⟩
        · exact ih e2 h2 x hx
/-- a dict as the library has it -/
theorem dic_of (I : Inv X pins σ H s) {a : Addr} {xs : List (NestedKey × Addr × V)} {ts : List T} (h : H a = some (DicO E.w a xs)) (hk : T.keys ts = some (xs.map (·.1))) (hr : RepAll E M H (xs.map fun x => .ref x.2.1) ts) :
    (a == sysModules) = false ∧ xs.length ≤ 1000000 ∧ (∀ x ∈ xs, x.1.depth ≤ 8) ∧ ∃ ys, s.heap.DictOfH (nestedKind X.prog X.w) a ys ∧ Paired DRel xs ys := by
  obtain ⟨⟨o, es, ep, ho, hx, hd, hs, hn, h8, hl, hp⟩, _⟩ := I.hok a _ h
  rw [ex.w] at hp
  obtain ⟨ys, e1, e2⟩ := ents_of (prog := X.prog) hp
  refine ⟨hs, hl, h8, ys, ⟨o, es, ep, ho, hx, hd, e1, fun y hy => ?_, ?_⟩, e2⟩
  · obtain ⟨x, hx, d1, d2, _⟩ := (dkeys e2).2 y hy
    obtain ⟨t, ht, hrt⟩ := key_of hk hr x hx
    rw [← d1, ← d2]
    exact ⟨rep_nested I t _ _ _ hrt rfl ht, h8 x hx⟩
  · rw [← (dkeys e2).1]; exact hn
theorem dic_ok {h : Heap} {a : Addr} {xs : List (NestedKey × Addr × V)} {ys : List (NestedKey × Addr × Value)} {Hp' : Hp} (hs : (a == sysModules) = false) (hl : xs.length ≤ 1000000) (h8 : ∀ x ∈ xs, x.1.depth ≤ 8) (hd : h.DictOfH (nestedKind X.prog X.w) a ys) (hp : Paired DRel xs ys) : ObjOk X.prog X.w Hp' h a (DicO E.w a xs) := by
  obtain ⟨o, es, ep, ho, hx, hd, he, _, hn⟩ := hd
  refine ⟨⟨o, es, ep, ho, hx, hd, hs, ?_, h8, hl, ?_⟩, ⟨o, ho⟩, fun h1 h2 ⟨o, es, ep, ho, r⟩ k => ⟨o, es, ep, k o ho, r⟩⟩
  · rw [(dkeys hp).1]; exact hn
  · rw [he, ex.w]; exact ents_to hp
/-! finding, putting -/
def findX (xs : List (NestedKey × Addr × V)) (k : NestedKey) : Option V := (xs.find? fun x => decide (x.1 = k)).map (·.2.2)
theorem find_rel {k : NestedKey} {xs : List (NestedKey × Addr × V)} {ys : List (NestedKey × Addr × Value)} (h : Paired DRel xs ys) : (findX xs k = none ∧ atKey ys k = none) ∨ ∃ v b u, findX xs k = some v ∧ atKey ys k = some (b, u) ∧ RelV v u := by
  induction h with
  | nil => exact .inl ⟨rfl, rfl⟩
  | cons r t ih =>
    rename_i x y xs ys
    obtain ⟨r1, r2, r3⟩ := r
    unfold findX atKey
    rw [List.find?_cons, List.find?_cons, r1]
    by_cases q : y.1 = k
    · rw [decide_eq_true q]
      exact .inr ⟨_, _, _, rfl, rfl, r3⟩
    · rw [decide_eq_false q]
      exact ih
def dfind (k : NestedKey) : List T → List T → Option T
  | t :: ts, u :: us => if (match T.key t with
      | some k' => NestedKey.beq k' k
      | none => false) = true then some u else dfind k ts us
  | _, _ => none
theorem dfind_rel {k : NestedKey} : ∀ {ts us : List T} {xs : List (NestedKey × Addr × V)}, T.keys ts = some (xs.map (·.1)) → RepAll E M H (xs.map (·.2.2)) us → (findX xs k = none ∧ dfind k ts us = none) ∨ ∃ v u, findX xs k = some v ∧ dfind k ts us = some u ∧ Rep E M H v u
  | [], us, xs, hk, hr => by
    cases xs with
    | nil => exact .inl ⟨rfl, rfl⟩
    | cons => unfold T.keys at hk; cases hk
  | t :: ts, us, xs, hk, hr => by
    cases xs with
    | nil => obtain ⟨_, _, e, _⟩ := keys_cons hk; cases e
    | cons x xs =>
      obtain ⟨k', ks1, e, e1, e2⟩ := keys_cons hk
      cases e
      cases hr with
      | cons r1 r2 =>
        rename_i u us
        by_cases q : NestedKey.beq x.1 k = true
        · have h1 : dfind k (t :: ts) (u :: us) = some u := by unfold dfind; rw [e1]; exact if_pos q
          have h2 : findX (x :: xs) k = some x.2.2 := by unfold findX; rw [List.find?_cons, NestedKey.decide_eq, q]; rfl
          exact .inr ⟨_, _, h2, h1, r1⟩
        · have h1 : dfind k (t :: ts) (u :: us) = dfind k ts us := by
            conv => lhs; unfold dfind
            rw [e1]; exact if_neg q
          have q' : NestedKey.beq x.1 k = false := by simpa using q
          have h2 : findX (x :: xs) k = findX xs k := by unfold findX; rw [List.find?_cons, NestedKey.decide_eq, q']
          rw [h1, h2]; exact dfind_rel e2 r2
/-- a tuple as a key -/
def keyOk (t : T) : Option NestedKey := match t with
  | .tup ts => (T.key (.tup ts)).bind fun k => if Nat.ble k.depth 8 = true then some k else none
  | _ => none
theorem key_at (I : Inv X pins σ H s) {v : V} {u : Value} {t : T} {k : NestedKey} (h : Rep E M H v t) (r : RelV v u) (e : keyOk t = some k) : ∃ a, v = .ref a ∧ u = .ref a ∧ (nestedKind X.prog X.w).is s.heap k a ∧ t.key = some k ∧ k.depth ≤ 8 := by
  unfold keyOk at e
  split at e
  · rename_i ts
    obtain ⟨k', e1, e2⟩ := Option.bind_eq_some_iff.mp e
    obtain ⟨e3, e4⟩ := ite_some' e2
    subst e4
    obtain ⟨a, xs, rfl, _, _⟩ := (show Seen E M H v (.tup ts) from .inl h).tup
    cases r
    exact ⟨a, rfl, rfl, ⟨rep_nested I _ _ _ _ h rfl e1, Nat.le_of_ble_eq_true e3⟩, e1, Nat.le_of_ble_eq_true e3⟩
  · cases e
theorem Seen.repK {v : V} {t : T} {k : NestedKey} (h : Seen E M H v t) (e : keyOk t = some k) : Rep E M H v t := by
  unfold keyOk at e
  split at e
  · exact h.repT
  · cases e
theorem Seen.dic {v : V} {ks vs : List T} (h : Seen E M H v (.dic ks vs)) : ∃ a xs, v = .ref a ∧ H a = some (DicO E.w a xs) ∧ T.keys ks = some (xs.map (·.1)) ∧ RepAll E M H (xs.map fun x => .ref x.2.1) ks ∧ RepAll E M H (xs.map (·.2.2)) vs := by
  rcases h with h | ⟨a, rfl, o, e, xs, rfl, h1, h2, h3⟩
  · cases h with
    | dic _ h1 h2 h3 h4 => exact ⟨_, _, rfl, h1, h2, h3, h4⟩
  · exact ⟨a, xs, rfl, e, h1, h2, h3⟩
/-! k in d -/
def rInDic (E : Ev) (neg : Bool) : R2 := fun x y H Q => ∃ (M : Addr → Prop) (t : T) (k : NestedKey) (ks vs : List T), Rep E M H x t ∧ keyOk t = some k ∧ Seen E M H y (.dic ks vs) ∧ Q (.bl (if neg = true then !(dfind k ks vs).isSome else (dfind k ks vs).isSome)) H
theorem dfind_at {k : NestedKey} {ks vs : List T} {xs : List (NestedKey × Addr × V)} {ys : List (NestedKey × Addr × Value)} (hk : T.keys ks = some (xs.map (·.1))) (hv : RepAll E M H (xs.map (·.2.2)) vs) (hp : Paired DRel xs ys) : (atKey ys k).isSome = (dfind k ks vs).isSome := by
  rcases dfind_rel (k := k) hk hv with ⟨h1, h2⟩ | ⟨v, u, h1, h2, _⟩
  · rcases find_rel (k := k) hp with ⟨h3, h4⟩ | ⟨_, _, _, h3, _⟩
    · rw [h2, h4]; rfl
    · rw [h1] at h3; cases h3
  · rcases find_rel (k := k) hp with ⟨h3, h4⟩ | ⟨_, _, _, h3, h4, _⟩
    · rw [h1] at h3; cases h3
    · rw [h2, h4]; rfl
theorem op_inDic (hu : X.A.units + 65 < cLine) : OpR X (compareOp .In) (rInDic E false) := by
  intro pins s σ H x y v u Q I rx ry h
  obtain ⟨M, t, k, ks, vs, hx, hk, hy, q⟩ := h
  obtain ⟨a, rfl, rfl, hkey, _, _⟩ := key_at I hx rx hk
  obtain ⟨d, xs, rfl, hd, h1, h2, h3⟩ := hy.dic
  cases ry
  obtain ⟨hs, _, _, ys, hD, hp⟩ := dic_of I hd h1 h2
  refine wpAny_in_heap (knd := nestedKind X.prog X.w) (show X.A.units + 1 + 8 < cLine by omega) hkey hs hD ⟨.bl _, H, I.tok _, rfl, ?_⟩
  rw [dfind_at h1 h3 hp]
  exact q
theorem op_notInDic (hu : X.A.units + 65 < cLine) : OpR X (compareOp .NotIn) (rInDic E true) := by
  intro pins s σ H x y v u Q I rx ry h
  obtain ⟨M, t, k, ks, vs, hx, hk, hy, q⟩ := h
  obtain ⟨a, rfl, rfl, hkey, _, _⟩ := key_at I hx rx hk
  obtain ⟨d, xs, rfl, hd, h1, h2, h3⟩ := hy.dic
  cases ry
  obtain ⟨hs, _, _, ys, hD, hp⟩ := dic_of I hd h1 h2
  show wpAny _ _ (do return Value.bool (!(← contains (Value.ref d) (Value.ref a)))) _ _ s
  refine wpAny_bind (wpAny_contains_heap (knd := nestedKind X.prog X.w) (show X.A.units + 1 + 8 < cLine by omega) hkey hs hD (wpAny_pure ⟨.bl _, H, I.tok _, rfl, ?_⟩))
  rw [dfind_at h1 h3 hp]
  exact q
def oInDic (neg : Bool) : O2 := fun x y => match y with
  | .dic ks vs => (keyOk x).map fun k => .val (.bl (if neg = true then !(dfind k ks vs).isSome else (dfind k ks vs).isSome))
  | _ => none
theorem ok_inDic (neg : Bool) : Ok2 E (rInDic E neg) (oInDic neg) := fun M H x y tx ty s Q k hx hy ho c => by
  unfold oInDic at ho
  split at ho
  · obtain ⟨nk, e1, rfl⟩ := Option.map_eq_some_iff.mp ho
    exact ⟨M, tx, nk, _, _, hx.repK e1, e1, hy, c _ _ (res_v (.bl _))⟩
  · cases ho
/-! d[k] -/
def rIxDic (E : Ev) : R2 := fun x y H Q => ∃ (M : Addr → Prop) (t : T) (k : NestedKey) (ks vs : List T) (u : T), Seen E M H x (.dic ks vs) ∧ Rep E M H y t ∧ keyOk t = some k ∧ dfind k ks vs = some u ∧ ∀ v, Rep E M H v u → Q v H
theorem ix_dic (hu : X.A.units + 65 < cLine) : IxR X (rIxDic E) := by
  intro value slice pins s σ H x y v u Q I rx ry h hs
  obtain ⟨M, t, k, ks, vs, tu, hx, hy, hk, hf, q⟩ := h
  obtain ⟨a, rfl, rfl, hkey, _, _⟩ := key_at I hy ry hk
  obtain ⟨d, xs, rfl, hd, h1, h2, h3⟩ := hx.dic
  cases rx
  obtain ⟨hsy, _, _, ys, hD, hp⟩ := dic_of I hd h1 h2
  rcases dfind_rel (k := k) h1 h3 with ⟨_, e⟩ | ⟨w, u', e1, e2, e3⟩
  · rw [hf] at e; cases e
  · rw [hf] at e2; cases e2
    rcases find_rel (k := k) hp with ⟨e4, _⟩ | ⟨w', b, u', e4, e5, e6⟩
    · rw [e1] at e4; cases e4
    · rw [e1] at e4; cases e4
      exact tail_any hD.typeIs slot_dict_getitem.lookup (wpAny_getItem_heap (knd := nestedKind X.prog X.w) (show X.A.units + 1 + 8 < cLine by omega) hkey hD e5 ⟨w, H, I.tok _, e6, q w e3⟩) hs
def oIxDic : O2 := fun x y => match x with
  | .dic ks vs => (keyOk y).bind fun k => (dfind k ks vs).map .val
  | _ => none
theorem ok_ixDic : Ok2 E (rIxDic E) oIxDic := fun M H x y tx ty s Q k hx hy ho c => by
  unfold oIxDic at ho
  split at ho
  · obtain ⟨nk, e1, e2⟩ := Option.bind_eq_some_iff.mp ho
    obtain ⟨u, e3, rfl⟩ := Option.map_eq_some_iff.mp e2
    exact ⟨M, ty, nk, _, _, u, hx, hy.repK e1, e1, e3, fun v h => c _ _ (res_v h)⟩
  · cases ho
end
end Fn
set_option Elab.async false
set_option linter.all false
set_option maxRecDepth 100000
set_option maxHeartbeats 4000000
/-! own layer, data: dicts with tuple keys: stored, displayed -/
namespace Fn
open PySem PySem.Spec PyProof.Rows L2 Rw
section
variable {X : Cx} {E : Ev} [ex : EX X E] {M : Addr → Prop} {H : Hp} {pins : List (Addr × Obj)} {σ : L2.St} {s : Shared}
def putX (xs : List (NestedKey × Addr × V)) (k : NestedKey) (b : Addr) (v : V) : List (NestedKey × Addr × V) :=
  if (findX xs k).isSome = true then xs.map (fun x => if x.1 = k then (x.1, x.2.1, v) else x) else xs ++ [(k, b, v)]
theorem map_rel {k : NestedKey} {v : V} {u : Value} (r : RelV v u) : ∀ {xs : List (NestedKey × Addr × V)} {ys : List (NestedKey × Addr × Value)}, Paired DRel xs ys → Paired DRel (xs.map fun x => if x.1 = k then (x.1, x.2.1, v) else x) (ys.map (putAt k u))
  | _, _, .nil => .nil
  | x :: xs, y :: ys, .cons h t => by
    refine .cons ?_ (map_rel r t)
    obtain ⟨h1, h2, h3⟩ := h
    unfold putAt
    dsimp only
    by_cases q : y.1 = k
    · rw [if_pos (h1.trans q), if_pos q]; exact ⟨h1, h2, r⟩
    · rw [if_neg fun z => q (h1.symm.trans z), if_neg q]; exact ⟨h1, h2, h3⟩
theorem put_rel {k : NestedKey} {b : Addr} {v : V} {u : Value} (r : RelV v u) {xs : List (NestedKey × Addr × V)} {ys : List (NestedKey × Addr × Value)} (h : Paired DRel xs ys) : Paired DRel (putX xs k b v) (storedH ys k b u) := by
  unfold putX storedH
  rcases find_rel (k := k) h with ⟨h1, h2⟩ | ⟨_, _, _, h1, h2, _⟩
  · rw [h1, h2]
    exact paired_app h (.cons ⟨rfl, rfl, r⟩ .nil)
  · rw [h1, h2]
    exact map_rel r h
theorem put_mem {k : NestedKey} {b : Addr} {v : V} {xs : List (NestedKey × Addr × V)} {x : NestedKey × Addr × V} (h : x ∈ putX xs k b v) : x.1 = k ∨ ∃ y ∈ xs, y.1 = x.1 := by
  unfold putX at h
  split at h
  · obtain ⟨y, hy, e⟩ := List.mem_map.mp h
    split at e
    · exact .inr ⟨y, hy, by rw [← e]⟩
    · exact .inr ⟨y, hy, by rw [e]⟩
  · rcases List.mem_append.mp h with h | h
    · exact .inr ⟨x, h, rfl⟩
    · rw [List.mem_singleton] at h; exact .inl (by rw [h])
theorem put_len {k : NestedKey} {b : Addr} {v : V} {xs : List (NestedKey × Addr × V)} : (putX xs k b v).length ≤ xs.length + 1 := by
  unfold putX
  split
  · rw [List.length_map]; omega
  · rw [List.length_append]; exact Nat.le_refl _
/-! the trees -/
def dset (k : NestedKey) (w : T) : List T → List T → List T
  | t :: ts, u :: us => if (match T.key t with
      | some k' => NestedKey.beq k' k
      | none => false) = true then w :: dset k w ts us else u :: dset k w ts us
  | _, us => us
def dput (k : NestedKey) (tk w : T) (ks vs : List T) : List T × List T := if (dfind k ks vs).isSome = true then (ks, dset k w ks vs) else (ks ++ [tk], vs ++ [w])
theorem keys_app {ks : List T} {t : T} {nk : List NestedKey} {k : NestedKey} : T.keys ks = some nk → t.key = some k → T.keys (ks ++ [t]) = some (nk ++ [k]) := by
  induction ks generalizing nk with
  | nil =>
    intro h1 h2
    unfold T.keys at h1; cases h1
    show T.keys [t] = some [k]
    unfold T.keys; rw [h2]; unfold T.keys; rfl
  | cons u us ih =>
    intro h1 h2
    obtain ⟨k', ks1, rfl, e1, e2⟩ := keys_cons h1
    show T.keys (u :: (us ++ [t])) = _
    unfold T.keys
    rw [e1, ih e2 h2]; rfl
theorem dset_rep {k : NestedKey} {v : V} {w : T} (hv : Rep E M H v w) : ∀ {ks vs : List T} {xs : List (NestedKey × Addr × V)}, T.keys ks = some (xs.map (·.1)) → RepAll E M H (xs.map (·.2.2)) vs → RepAll E M H ((xs.map fun x => if x.1 = k then (x.1, x.2.1, v) else x).map (·.2.2)) (dset k w ks vs)
  | [], vs, xs, hk, hr => by
    cases xs with
    | nil => cases hr; exact .nil
    | cons => unfold T.keys at hk; cases hk
  | t :: ts, vs, xs, hk, hr => by
    cases xs with
    | nil => obtain ⟨_, _, e, _⟩ := keys_cons hk; cases e
    | cons x xs =>
      obtain ⟨k', ks1, e, e1, e2⟩ := keys_cons hk
      cases e
      cases hr with
      | cons r1 r2 =>
        rename_i u us
        have ih := dset_rep (k := k) hv e2 r2
        by_cases q : NestedKey.beq x.1 k = true
        · have h1 : dset k w (t :: ts) (u :: us) = w :: dset k w ts us := by
            conv => lhs; unfold dset
            rw [e1]; exact if_pos q
          rw [h1, List.map_cons, List.map_cons, if_pos (NestedKey.eq_of_beq _ _ q)]
          exact .cons hv ih
        · have h1 : dset k w (t :: ts) (u :: us) = u :: dset k w ts us := by
            conv => lhs; unfold dset
            rw [e1]; exact if_neg q
          rw [h1, List.map_cons, List.map_cons, if_neg fun z => q (by rw [z]; exact NestedKey.beq_self k)]
          exact .cons r1 ih
/-- the new entries show the new tree -/
theorem dput_rep {k : NestedKey} {b : Addr} {v : V} {tk w : T} {ks vs : List T} {xs : List (NestedKey × Addr × V)} (hk : T.keys ks = some (xs.map (·.1))) (hr : RepAll E M H (xs.map fun x => .ref x.2.1) ks) (hvs : RepAll E M H (xs.map (·.2.2)) vs) (ht : tk.key = some k) (hb : Rep E M H (.ref b) tk) (hv : Rep E M H v w) :
    T.keys (dput k tk w ks vs).1 = some ((putX xs k b v).map (·.1)) ∧ RepAll E M H ((putX xs k b v).map fun x => .ref x.2.1) (dput k tk w ks vs).1 ∧ RepAll E M H ((putX xs k b v).map (·.2.2)) (dput k tk w ks vs).2 := by
  unfold putX dput
  rcases dfind_rel (k := k) hk hvs with ⟨h1, h2⟩ | ⟨_, _, h1, h2, _⟩
  · rw [h1, h2]
    refine ⟨?_, ?_, ?_⟩
    · show T.keys (ks ++ [tk]) = some ((xs ++ [(k, b, v)]).map (·.1))
      rw [List.map_append]; exact keys_app hk ht
    · show RepAll E M H ((xs ++ [(k, b, v)]).map fun x => .ref x.2.1) (ks ++ [tk])
      rw [List.map_append]; exact hr.app (.cons hb .nil)
    · show RepAll E M H ((xs ++ [(k, b, v)]).map (·.2.2)) (vs ++ [w])
      rw [List.map_append]; exact hvs.app (.cons hv .nil)
  · rw [h1, h2]
    refine ⟨?_, ?_, dset_rep hv hk hvs⟩
    · show T.keys ks = some ((xs.map fun x => if x.1 = k then (x.1, x.2.1, v) else x).map (·.1))
      rw [hk, List.map_map]
      congr 1
      refine List.map_congr_left fun x _ => ?_
      simp only [Function.comp]
      split <;> rfl
    · show RepAll E M H ((xs.map fun x => if x.1 = k then (x.1, x.2.1, v) else x).map fun x => .ref x.2.1) ks
      rw [List.map_map]
      have : (fun x : NestedKey × Addr × V => V.ref x.2.1) ∘ (fun x => if x.1 = k then (x.1, x.2.1, v) else x) = fun x => V.ref x.2.1 := by
        funext x
        simp only [Function.comp]
        split <;> rfl
      rw [this]; exact hr
/-! d[k] = v -/
def rSetDic (E : Ev) : TSet := fun o i v H Q => ∃ (M : Addr → Prop) (t : T) (k : NestedKey) (a : Addr) (xs : List (NestedKey × Addr × V)) (ks : List T), o = .ref a ∧ H a = some (DicO E.w a xs) ∧ T.keys ks = some (xs.map (·.1)) ∧ RepAll E M H (xs.map fun x => .ref x.2.1) ks ∧ Rep E M H i t ∧ keyOk t = some k ∧ xs.length < 1000000 ∧ ∀ b, i = .ref b → Q (upd H a (DicO E.w a (putX xs k b v)))
theorem set_dic (hu : X.A.units + 65 < cLine) : PSet X (rSetDic E) := by
  intro pins s σ H o i v ov iv u Q I ro ri rv h
  obtain ⟨M, t, k, a, xs, ks, rfl, hd, h1, h2, hi, hk, hlt, q⟩ := h
  obtain ⟨b, rfl, rfl, hkey, _, h8k⟩ := key_at I hi ri hk
  cases ro
  obtain ⟨hsy, hl, h8, ys, hD, hp⟩ := dic_of I hd h1 h2
  have hyl : ys.length = xs.length := by have := congrArg List.length (dkeys hp).1; simpa using this.symm
  refine wpAny_setItem_heap (knd := nestedKind X.prog X.w) (hsz := by rw [hyl, sizeLine_eq]; omega) (show X.A.units + 1 + 8 < cLine by omega) hkey hD fun h' hD' hs => ?_
  have hp' := put_rel (k := k) (b := b) rv hp
  have hd' := hD'
  obtain ⟨o', es, ep, ho', _⟩ := hd'
  refine ⟨_, d_write I (by rw [hd]; exact True.intro) hs ⟨o', ho'⟩ (dic_ok (E := E) hsy ?_ ?_ hD' hp'), q b rfl⟩
  · exact Nat.le_trans put_len (by omega)
  · intro x hx
    rcases put_mem hx with e | ⟨y, hy, e⟩
    · rw [e]; exact h8k
    · rw [← e]; exact h8 y hy
/-- d[k] = v: d a local of one's own -/
def gDput (fo fi : EF) : GF := fun z => (fo z).bind fun z1 => (fi z1).bind fun z2 => (fz z2).bind fun x => match x.2.k with
  | .ali j :: k => (fz ⟨x.2.l, k⟩).bind fun y => match y.2.l[j]? with
    | some s => match s.own? with
      | some (.dic ks vs) => (keyOk x.1).bind fun nk => if Nat.blt ks.length 1000000 = true then some ⟨y.2.l.set j (tl1 s (.dic (dput nk x.1 y.1 ks vs).1 (dput nk x.1 y.1 ks vs).2)), y.2.k⟩ else none
      | _ => none
    | none => none
  | _ => none
end
section
variable {X : Cx} {E : Ev} [ex : EX X E] {e a b c o i : Expr} {pos : Pos} {f g : EF}
theorem keys_len : ∀ {ts : List T} {ks : List NestedKey}, T.keys ts = some ks → ts.length = ks.length
  | [], ks, h => by unfold T.keys at h; cases h; rfl
  | t :: ts, ks, h => by obtain ⟨k, ks1, rfl, _, h2⟩ := keys_cons h; rw [List.length_cons, List.length_cons, keys_len h2]
theorem gd_dput (hu : X.A.units + 65 < cLine) (hq : ∀ {to ti : TE}, PE X o to → PE X i ti → PG X e (gSub to ti (rSetDic E))) (ho : ED X E o f) (hi : ED X E i g) : GD X E e [] (gDput f g) := ⟨pg_imp (hq ho.pe hi.pe) fun v σ H Q ⟨R, zs, z, z', er, q, c⟩ => by
  obtain ⟨z1, q1, q2⟩ := Option.bind_eq_some_iff.mp q
  obtain ⟨z2, q3, q4⟩ := Option.bind_eq_some_iff.mp q2
  obtain ⟨⟨tk, l3, k3⟩, q5, q6⟩ := Option.bind_eq_some_iff.mp q4
  dsimp only at q6
  split at q6
  · rename_i j k
    obtain ⟨⟨tv, l4, k4⟩, q7, q8⟩ := Option.bind_eq_some_iff.mp q6
    dsimp only at q8
    split at q8
    · rename_i s hs
      split at q8
      · rename_i ks vs hso
        obtain ⟨nk, q9, q10⟩ := Option.bind_eq_some_iff.mp q8
        obtain ⟨q11, q12⟩ := ite_some' q10
        subst q12
        refine ⟨R, _, z, z1, er, q1, fun x H1 e1 => ⟨R, _, z1, z2, e1, q3, fun y H2 e2 => ?_⟩⟩
        obtain ⟨y', h1, e3, ry⟩ := e2.fz q5
        cases h1
        obtain ⟨ha, _⟩ := e3.al (some x) j List.mem_cons_self
        obtain ⟨v', h1, e4, rv⟩ := ER.fz e3.pop q7
        cases h1
        obtain ⟨a, hj, ow, wr⟩ := e4.wrl hs hso
        rw [ha] at hj; cases hj
        obtain ⟨o', ho1, xs, rfl, d1, d2, d3⟩ := ow
        have ry2 := ry.an (M' := Mz R σ zs ⟨l4, k4⟩) fun a m => mz_pop a (fz_mx e3.pop q7 a m)
        refine ⟨_, tk, nk, a, xs, ks, rfl, ho1, d1, d2, ry2, q9, ?_, fun b hb => ?_⟩
        · have := keys_len d1; rw [List.length_map] at this; rw [← this]; exact Nat.le_of_ble_eq_true q11
        · subst hb
          have hkey : tk.key = some nk := by
            unfold keyOk at q9
            split at q9
            · obtain ⟨k', e1, e2⟩ := Option.bind_eq_some_iff.mp q9
              obtain ⟨_, e4⟩ := ite_some' e2
              subst e4; exact e1
            · cases q9
          obtain ⟨p1, p2, p3⟩ := dput_rep (b := b) d1 d2 d3 hkey ry2 rv
          exact c σ _ wp_rf (wr _ _ ⟨_, rfl, p1, p2, p3⟩)
      · cases q8
    · cases q8
  · cases q6⟩
/-! {k: v} -/
def tDisp1 (E : Ev) (tk tv : TE) : TE := fun σ H Q => ∀ p, H p = none → tk σ (upd H p (DicO E.w p [])) fun x H1 => tv σ H1 fun y H2 => H2 p = some (DicO E.w p []) ∧ ∃ (M : Addr → Prop) (t : T) (k : NestedKey), Rep E M H2 x t ∧ keyOk t = some k ∧ ∀ b, x = .ref b → Q (.ref p) (upd H2 p (DicO E.w p [(k, b, y)]))
theorem pe_disp1 {k v : Expr} {tk tv : TE} (hu : X.A.units + 65 < cLine) (hk : PE X k tk) (hv : PE X v tv) : PE X (.Dict [some k] [v] pos) (tDisp1 E tk tv) := by
  refine ⟨fun pins s σ H Q I q => ?_⟩
  have hn := I.hok.fresh (Nat.le_refl s.heap.objs.size)
  have hbig : (s.heap.objs.size == sysModules) = false := by
    have := I.big
    exact beq_eq_false_iff_ne.mpr (Nat.ne_of_gt this)
  have I1 := I.laid (a := s.heap.objs.size) (o := DicO E.w s.heap.objs.size []) (h' := s.heap.push { cls := .type "dict", data := .dict #[] }) (t' := s.toks) (fun _ _ q => Heap.get?_push_of_some _ q) (Nat.le_refl _)
    (dic_ok (E := E) (X := X) hbig (Nat.zero_le _) (fun x h => by cases h) (Heap.DictOfH.new s.heap) .nil)
  have hl : (pairTrees [some k] [v] X.env pos).length = 1 := pairTrees_length _ _ _ _ (by rfl) (by rfl)
  rw [arm_eval_Dict, zip_pairTrees _ _ _ _ (by rfl) (by rfl), dictDisplay_pairs _ (by intro z; rw [z] at hl; cases hl) (by rw [hl]; decide)]
  refine wpAny_bind (wpAny_standAt (wpAny_bind (wpAny_subDictH (knd := nestedKind X.prog X.w) (Q := fun d s' => wpAny _ X.A (pure (Value.ref d)) (EP X pins σ Q) X.xe s') (show X.A.units + 8 < cLine by omega) (by rw [hl]; decide) ?_)))
  refine pairTrees_cons_walk (thn (hk.run pins _ σ _ _ I1 (q _ hn)) fun u s1 ⟨x, H1, I2, rx, q1⟩ => thn (hv.run pins s1 σ H1 _ I2 q1) fun w2 s2 ⟨y, H2, I3, ry, e, M, t, nk, hr, hko, q2⟩ => pairTrees_nil_walk ?_)
  obtain ⟨b, rfl, rfl, hkey, _, h8⟩ := key_at I3 hr rx hko
  obtain ⟨hsy, _, _, ys, hD, hp⟩ := dic_of (E := E) (ts := []) (M := M) I3 e rfl .nil
  cases hp
  refine ⟨[(nk, b, w2)], ⟨rfl, rfl, hkey, trivial⟩, hD, fun h' tk hD' hs => wpAny_pure ?_⟩
  have hd' := hD'
  obtain ⟨o', es, ep, ho', _⟩ := hd'
  refine ⟨.ref _, _, d_write I3 (by rw [e]; exact True.intro) hs ⟨o', ho'⟩ (dic_ok (E := E) hsy (xs := [(nk, b, y)]) (by show 1 ≤ 1000000; decide) (fun z hz => by rw [List.mem_singleton] at hz; rw [hz]; exact h8) hD' (.cons ⟨rfl, rfl, ry⟩ .nil)), rfl, q2 b rfl⟩
/-- the top's own thing is written -/
theorem ER.wrs {R : Rc} {σ zs : List (Option V)} {H : Hp} {l k : List Sl} {p : Addr} {t t' : T} {o : HO} (er : ER E R σ (some (.ref p) :: zs) H ⟨l, .own t :: k⟩) (ho : OwnO E (Mz R σ (some (.ref p) :: zs) ⟨l, .own t :: k⟩) H p t' o) : ER E R σ (some (.ref p) :: zs) (upd H p o) ⟨l, .own t' :: k⟩ := by
  have P := (pz_push (σ := σ) (zs := zs) (l := l) (k := k) (some (V.ref p)) (Sl.own t)).symm
  have g := er.ok.perm P
  have g2 := g.wr (s' := .own t') (t' := t') (o := o) rfl rfl (.inl ⟨rfl, rfl⟩) (ho.mv fun b u eb m => ⟨eb, fun z => m ((mx_perm P b).mpr z)⟩)
  refine ⟨er.ll, er.lk, g2.perm (pz_push (σ := σ) (zs := zs) (l := l) (k := k) (some (V.ref p)) (Sl.own t')), fun w j m => ?_, er.nl, fun s hs => ?_, er.io⟩
  · rcases List.mem_cons.mp m with m | m
    · cases m
    · exact er.al w j (List.mem_cons_of_mem _ m)
  · rcases List.mem_cons.mp hs with rfl | hs
    · rfl
    · exact er.nk s (List.mem_cons_of_mem _ hs)
def fDisp1 (fk fv : EF) : EF := fun z => (fk ⟨z.l, .own (.dic [] []) :: z.k⟩).bind fun z2 => (fv z2).bind fun z3 => (fz z3).bind fun y => (fz y.2).bind fun x => match x.2.k with
  | .own (.dic [] []) :: k => (keyOk x.1).map fun _ => ⟨x.2.l, .own (.dic [x.1] [y.1]) :: k⟩
  | _ => none
theorem ed_disp1 {k v : Expr} (hu : X.A.units + 65 < cLine) (hk : ED X E k f) (hv : ED X E v g) : ED X E (.Dict [some k] [v] pos) (fDisp1 f g) := ⟨pe_imp (pe_disp1 (E := E) hu hk.pe hv.pe) fun σ H Q ⟨R, zs, z, z', er, q, c⟩ p hp => by
  obtain ⟨z2, q1, q2⟩ := Option.bind_eq_some_iff.mp q
  obtain ⟨z3, q3, q4⟩ := Option.bind_eq_some_iff.mp q2
  obtain ⟨⟨tv, z4⟩, q5, q6⟩ := Option.bind_eq_some_iff.mp q4
  obtain ⟨⟨tk, l5, k5⟩, q7, q8⟩ := Option.bind_eq_some_iff.mp q6
  dsimp only at q8
  split at q8
  · rename_i k6
    obtain ⟨nk, q9, q10⟩ := Option.map_eq_some_iff.mp q8
    cases q10
    have e1 := ER.pown (l := z.l) (k := z.k) (t := .dic [] []) (o := DicO E.w p []) er hp ⟨[], rfl, rfl, .nil, .nil⟩
    refine ⟨R, _, _, z2, e1, q1, fun x H1 e2 => ⟨R, _, z2, z3, e2, q3, fun y H2 e3 => ?_⟩⟩
    obtain ⟨y', h1, e4, ry⟩ := e3.fz q5
    cases h1
    obtain ⟨x', h1, e5, rx⟩ := e4.fz q7
    cases h1
    have top : (some (V.ref p), Sl.own (.dic [] [])) ∈ Pz σ (some (.ref p) :: zs) ⟨l5, .own (.dic [] []) :: k6⟩ := List.mem_append_right _ List.mem_cons_self
    obtain ⟨a, ea, _, o', ho', xs, rfl, d1, d2, d3⟩ := e5.ok.own _ top (.dic [] []) rfl
    cases ea
    have hxs : xs = [] := by
      cases xs with
      | nil => rfl
      | cons x xs => cases d1
    subst hxs
    refine ⟨ho', _, tk, nk, rx, q9, fun b hb => ?_⟩
    subst hb
    have hkey : tk.key = some nk := by
      unfold keyOk at q9
      split at q9
      · obtain ⟨k', e1, e2⟩ := Option.bind_eq_some_iff.mp q9
        obtain ⟨_, e4⟩ := ite_some' e2
        subst e4; exact e1
      · cases q9
    have ry2 := ry.an (M' := Mz R σ (some (.ref p) :: zs) ⟨l5, .own (.dic [] []) :: k6⟩) fun a m => fz_mx e4 q7 a m
    refine c _ _ (e5.wrs ⟨[(nk, b, y)], rfl, ?_, .cons rx .nil, .cons ry2 .nil⟩)
    show T.keys [tk] = some [nk]
    unfold T.keys; rw [hkey]; unfold T.keys; rfl
  · cases q8⟩
end
end Fn
set_option Elab.async false
set_option linter.all false
set_option maxRecDepth 100000
set_option maxHeartbeats 4000000
/-! own layer, data: a lambda of one parameter, called by the def that got it -/
namespace Fn
open PySem PySem.Spec PyProof.Rows L2 Rw LamX
/-- one parameter y; captured names and globals besides -/
structure LamS1 (sc scope : Scope) (y : Str) : Prop where
  kind : scope.kind = .function
  co : scope.isCoroutine = false
  gen : scope.isGenerator = false
  own : ∀ z ∈ scope.names, z.2 ≠ .cell
  loc : ∀ z ∈ scope.names, z.2 = .local → z.1 = y
  par : scope.names.lookup y = some .local
  free : ∀ z ∈ scope.names, z.2 = .free → sc.names.lookup z.1 = some .cell ∨ sc.names.lookup z.1 = some .free
def lamS1B (sc scope : Scope) (y : Str) : Bool :=
  decide (scope.kind = .function) && !scope.isCoroutine && !scope.isGenerator && decide (scope.names.lookup y = some .local) &&
    scope.names.all fun z => !decide (z.2 = .cell) && (!decide (z.2 = .local) || decide (z.1 = y)) && (!decide (z.2 = .free) || decide (sc.names.lookup z.1 = some .cell) || decide (sc.names.lookup z.1 = some .free))
theorem lamS1_by {sc scope : Scope} {y : Str} (h : lamS1B sc scope y = true) : LamS1 sc scope y := by
  unfold lamS1B at h
  simp only [Bool.and_eq_true, Bool.or_eq_true, Bool.not_eq_true', decide_eq_true_eq, decide_eq_false_iff_not, List.all_eq_true] at h
  obtain ⟨⟨⟨⟨h1, h2⟩, h3⟩, h4⟩, h5⟩ := h
  refine ⟨h1, h2, h3, fun z hz => (h5 z hz).1.1, fun z hz e => ?_, h4, fun z hz e => ?_⟩
  · rcases (h5 z hz).1.2 with k | k
    · exact absurd e k
    · exact k
  · rcases (h5 z hz).2 with (k | k) | k
    · exact absurd e k
    · exact .inl k
    · exact .inr k
theorem LamS1.has {X : Cx} {scope : Scope} {y : Str} (L : LamS1 X.env.scope scope y) (ok : X.Ok) : ∀ z ∈ scope.names, z.2 = .free → ∃ c, X.env.cells.lookup z.1 = some c := fun z hz e => by
  rcases L.free z hz e with k | k
  · exact ok.has _ (.inl k)
  · exact ok.has _ (.inr k)
/-- the context of such a lambda's body: the maker's names, then the parameter -/
def lamCx1 (X : Cx) (A : Around) (outer : List Env) (s : Shared) (H : Hp) (E : XK) (scope : Scope) (y : Str) (f c' : Addr) : Cx := { lamCx X A outer s H E scope f c' with N := X.N ++ [y] }
section
variable {X : Cx} {pins : List (Addr × Obj)} {σ : L2.St} {H HZ : Hp} {s s1 : Shared}
theorem lam_start1 {A : Around} {outer : List Env} {E : XK} {scope : Scope} {y : Str} {f c' : Addr} {h₁ : Heap} {tk : Nat} {a : V} {u : Value} (I : Inv X pins σ H s) (L : LamS1 X.env.scope scope y) (hy : y ∉ X.N) (r : RelV a u)
    (e0 : Env0 X.prog X.w X.K X.mg X.base A outer s1 HZ) (hd : A.handled = none) (un : Un (frs X.stack) [] H HZ s.heap s1.heap) (hns : h₁.Ns s1.heap.objs.size fun z => ([(y, u)] : List (Str × Value)).reverse.lookup z) (kp : ∀ b o, s1.heap.get? b = some o → h₁.get? b = some o) :
    Inv (lamCx1 X A outer s1 HZ E scope y f c') [] (σ ++ [some a]) HZ { s1 with heap := h₁, toks := tk } := by
  have hfree := L.has I.ok
  have cm : ∀ {z c}, (cloFrom X.env.cells scope.names []).lookup z = some c → X.env.cells.lookup z = some c := fun {z c} e => by
    rcases cloFrom_mem (PySem.mem_of_lookup e) with hm | ⟨h1, h2⟩
    · cases hm
    · obtain ⟨c1, hc⟩ := hfree _ h1 rfl
      have hc : X.env.cells.lookup z = some c1 := hc
      have e2 : c = c1 := by rw [h2, hc] <;> rfl
      rw [e2]
      exact hc
  have look : ∀ {z}, scope.names.lookup z = some .free → ∃ c, (cloFrom X.env.cells scope.names []).lookup z = some c := fun {z} hl =>
    mem_lookup (cloFrom_has (cells := X.env.cells) (acc := []) (show (z, NameKind.free) ∈ scope.names from PySem.mem_of_lookup hl))
  have cellK : ∀ {c : Addr} {v : Option Value}, H c = none → s.heap.IsCell c v → h₁.IsCell c v := fun {c v} n ⟨o, ho, hd⟩ => by
    obtain ⟨sl, q⟩ := un.any ho n (by simp)
    exact ⟨_, kp _ _ q, hd⟩
  have noA : ∀ b : Addr, b ∉ (lamCx1 X A outer s1 HZ E scope y f c').ex := fun b z => absurd (show b ∈ ([] : List Addr) from z) (by simp)
  have ll : σ.length = X.N.length := I.len
  refine ⟨⟨e0.mod, L.kind, rfl, rfl, Nat.le_refl _, fun z z' c e1 e2 => I.ok.inj z z' c (cm e1) (cm e2), fun z hz => ?_, fun z c q _ => ?_, fun _ => hd, Around.frames_deeper e0.frames, .inr ⟨rfl, rfl⟩, fun b z => absurd z (noA b), e0.bs, e0.bsz, fun b _ _ => noA b,
      fun b z => absurd z (noA b), e0.funs, e0.frf⟩,
    rfl, e0.bare, Un.kept kp, ⟨_, hns, fun i z v e1 e2 e3 => ?_⟩, fun z c e => ?_, e0.hok.fresh (Nat.le_refl _), fun z c e => ?_, fun q hq => absurd (show q ∈ ([] : List (Addr × Obj)) ++ [] from hq) (by simp), e0.hok.kept kp, ?_⟩
  · have hz : scope.names.lookup z = some .cell ∨ scope.names.lookup z = some .free := hz
    rcases hz with hz | hz
    · exact absurd rfl (L.own _ (PySem.mem_of_lookup hz))
    · exact look hz
  · have q : false = true := q
    cases q
  · have e1 : (X.N ++ [y])[i]? = some z := e1
    have e3 : Vis scope z := e3
    by_cases hi : i < X.N.length
    · rw [List.getElem?_append_left hi] at e1
      rw [List.getElem?_append_left (by rw [ll]; exact hi)] at e2
      rcases e3 with k | k | k
      · have q : z = y := L.loc _ (PySem.mem_of_lookup k) rfl
        exact absurd (List.mem_of_getElem? e1) (by rw [q]; exact hy)
      · exact absurd rfl (L.own _ (PySem.mem_of_lookup k))
      · obtain ⟨m, hn, hl⟩ := I.loc
        have hvis : Vis X.env.scope z := (L.free _ (PySem.mem_of_lookup k) rfl).elim (fun k => .inr (.inl k)) (fun k => .inr (.inr k))
        obtain ⟨w', r, q⟩ := hl i z v e1 e2 hvis
        obtain ⟨c2, h2⟩ := look k
        refine ⟨w', r, .inr ⟨.inr k, c2, h2, ?_⟩⟩
        have c1 := cm h2
        rcases q with ⟨k', _⟩ | ⟨_, c3, e', q⟩
        · have k' : X.env.scope.names.lookup z = some .local := k'
          rcases L.free _ (PySem.mem_of_lookup k) rfl with k2 | k2 <;> rw [show X.env.scope.names.lookup z = _ from k2] at k' <;> cases k'
        · rw [c1] at e'
          cases e'
          exact cellK (I.freeC z _ c1) q
    · have hi' : i = X.N.length := by
        have := (List.getElem?_eq_some_iff.mp e1).1
        rw [List.length_append, List.length_singleton] at this
        omega
      subst hi'
      rw [List.getElem?_append_right (Nat.le_refl _), Nat.sub_self] at e1
      rw [List.getElem?_append_right (by rw [ll]; exact Nat.le_refl _), ll, Nat.sub_self] at e2
      cases e1; cases e2
      exact ⟨u, r, .inl ⟨L.par, by simp⟩⟩
  · obtain ⟨w', q⟩ := I.cell z c (cm e)
    exact ⟨w', cellK (I.freeC z c (cm e)) q⟩
  · obtain ⟨v, o, ho, hd⟩ := I.cell z c (cm e)
    exact un.free c o ho (I.freeC z c (cm e)) (by simp)
  · show (σ ++ [some a]).length = (X.N ++ [y]).length
    rw [List.length_append, List.length_append, ll]; rfl
/-- x(e), in the def that got the lambda -/
theorem pe_act1 {Ng : List Str} {qg : Str} {sg : Scope} {g f c' : Addr} {cdg pm ctv : Value} {params : Arguments} {body e : Expr} {scope : Scope} {k i : Nat} {a y : Str} {tb te : TE} {p1 p2 : Pos}
    (I : Inv X pins σ H s) (L : LamS1 X.env.scope scope y) (hy : y ∉ X.N) (hf : s.heap.get? f = some (PySem.W.kla_obj "<lambda>" (X.env.qual ++ "<lambda>") params body scope (cloFrom X.env.cells scope.names []) pm c' ctv)) (hfn : H f = none) (hfr : f ∉ frs X.stack)
    (hbind : ∀ u, bindArgs (PySem.W.kla_fn "<lambda>" (X.env.qual ++ "<lambda>") params body scope (cloFrom X.env.cells scope.names []) pm (.ref c') ctv) ⟨[u], []⟩ = pure [(y, u)])
    (hr : Room (k + 1) (X.A.deeper (envOfC qg sg s.heap.objs.size g cdg)))
    (hbody : ∀ (A : Around) (outer : List Env) (s : Shared) (H : Hp), Room k (A.deeper (lamEnv X scope s.heap.objs.size f c')) → PE (lamCx1 X A outer s H L2.E0 scope y f c') body tb)
    (hN : Ng[i]? = some a) (hv : Vis sg a) (he : PE (cxOf L2.CX0 X.prog X.w X.K X.mg X.base Ng qg sg g cdg X.A X.stack s H L2.E0).nox e te)
    (hst : starEach [e] (cxOf L2.CX0 X.prog X.w X.K X.mg X.base Ng qg sg g cdg X.A X.stack s H L2.E0).nox.env = (false, eval e (cxOf L2.CX0 X.prog X.w X.K X.mg X.base Ng qg sg g cdg X.A X.stack s H L2.E0).nox.env) :: starEach [] (cxOf L2.CX0 X.prog X.w X.K X.mg X.base Ng qg sg g cdg X.A X.stack s H L2.E0).nox.env)
    (hd : (a == ("__debug__" : Str)) = false := by decide) (hcd : (a == ("__classdict__" : Str)) = false := by decide) :
    PE (cxOf L2.CX0 X.prog X.w X.K X.mg X.base Ng qg sg g cdg X.A X.stack s H L2.E0).nox (.Call (.Name a p1) [e] [] p2)
      (fun σZ HZ Q => σZ[i]? = some (some (.ref f)) ∧ te σZ HZ fun v H1 => H1 c' = some (CodeO c' (X.env.qual ++ "<lambda>")) ∧ tb (σ ++ [some v]) H1 Q) := by
  refine ⟨fun pinsZ sZ σZ HZ Q IZ h => ?_⟩
  obtain ⟨hs, ht⟩ := h
  refine wpAny_Call_Name_kw (thn ((pe_var (pos := p1) (i := i) hN hv hd hcd).run pinsZ sZ σZ HZ (fun v H1 => v = .ref f ∧ H1 = HZ) IZ ⟨.ref f, hs, rfl, rfl⟩) fun u s1 ⟨v, H1, I1, r1, q1⟩ => ?_)
  obtain ⟨ev, eH⟩ := q1
  subst ev
  rw [eH] at I1
  obtain rfl : u = Value.ref f := r1
  have ofA : ∀ {s1 : Shared} {σ1 : L2.St} {H1 : Hp}, Inv (cxOf L2.CX0 X.prog X.w X.K X.mg X.base Ng qg sg g cdg X.A X.stack s H L2.E0).nox pinsZ σ1 H1 s1 → s1.heap.get? f = some (PySem.W.kla_obj "<lambda>" (X.env.qual ++ "<lambda>") params body scope (cloFrom X.env.cells scope.names []) pm c' ctv) := fun I1 => I1.base.keep f _ hf hfn hfr (fun z => nomatch (show f ∈ ([] : List Addr) from z))
  refine PySem.W.callWith_F (first := []) ⟨_, _, _, _, ofA I1⟩ (thn ((pa_cons he pa_nil hst).run p2 pinsZ s1 σZ HZ (fun vs H1 => match vs with | [v] => H1 c' = some (CodeO c' (X.env.qual ++ "<lambda>")) ∧ tb (σ ++ [some v]) H1 Q | _ => False) I1 ht) fun us s2 ⟨vs, H2, I2, r, q⟩ => ⟨⟨_, _, _, _, ofA I2⟩, ?_⟩) hst (by rfl)
  obtain ⟨v, rfl⟩ : ∃ v, vs = [v] := by
    match vs, q with
    | [v], _ => exact ⟨v, rfl⟩
  obtain ⟨hc, hb⟩ := q
  obtain ⟨u, rfl, ru⟩ : ∃ u, us = [u] ∧ RelV v u := by
    cases r with
    | cons r1 r2 => cases r2; exact ⟨_, rfl, r1⟩
  show wpAny _ _ (call (.ref f) [u]) _ _ _
  have un : Un (frs X.stack) [] H H2 s.heap s2.heap := I2.base
  obtain ⟨⟨oc, vs, t, hoc, hdc, hvc⟩, _, _⟩ := I2.hok c' _ hc
  have rc : codeAny (model X.prog X.w) (X.A.deeper (envOfC qg sg s.heap.objs.size g cdg)) (.call (.ref f) ⟨[u], []⟩) (CR (L2.CX X.prog X.w) (envOfC qg sg s.heap.objs.size g cdg :: X.stack) X.prog X.w H2 s2 Q L2.E0) s2 := by
    refine PySem.W.kla_callFunE hr.depth (ofA I2) rfl L.co L.gen rfl ⟨c', oc, vs, t, rfl, hoc, hdc, hvc⟩ ?_
    rw [hbind]
    refine wpAny_pure (wpAny_newFunctionEnv (fun z hz => L.own z hz) (fun z hz => by rw [List.mem_singleton.mp hz]; exact L.par) (fun h₁ hns hsb => ⟨I2.nolimit.fresh _ hsb, ?_⟩) L.kind)
    show codeAny _ _ (.expr body (lamEnv X scope s2.heap.objs.size f c')) _ _
    have kp : ∀ b o, s2.heap.get? b = some o → h₁.get? b = some o := fun b o e => hsb.extBut b o (Nat.ne_of_lt (Heap.lt_size e)) (Heap.get?_push_of_some _ e)
    have J : Inv (lamCx1 X (X.A.deeper (envOfC qg sg s.heap.objs.size g cdg)) (envOfC qg sg s.heap.objs.size g cdg :: X.stack) s2 H2 L2.E0 scope y f c') [] (σ ++ [some v]) H2 { s2 with heap := h₁, toks := s2.toks + [(y, u)].length } :=
      lam_start1 I L hy ru I2.env0 hr.hd un hns kp
    refine PySem.W.kla_codeExpr (wpAny_mono ((hbody _ _ s2 H2 (hr.deeper _)).run [] _ _ H2 Q J hb) (fun v s' hq => ?_) fun e s' hq => hq)
    obtain ⟨w', H', J', rv, q⟩ := hq
    exact ⟨w', H', J'.os, J'.bare, J'.base, J'.hok, rv, q⟩
  refine wpAny_call (codeAny_mono rc fun r s' hq => ?_)
  cases r with
  | error e =>
    obtain ⟨_, _, _, _, _, _, _, _, _, _, _, _, z⟩ := hq
    exact z.elim
  | ok fl =>
    cases fl with
    | ret u => exact I2.after hq
    | next => exact False.elim hq
    | brk => exact False.elim hq
    | cont => exact False.elim hq
end
end Fn
set_option Elab.async false
set_option linter.all false
set_option maxRecDepth 100000
set_option maxHeartbeats 4000000
/-! own layer, data: the call of a function that was handed over -/
namespace Fn
open PySem PySem.Spec PyProof.Rows L2 Rw LamX
mutual
def T.nof : T → Bool
  | .fnc => false
  | .tup ts => T.nofs ts
  | .lst ts => T.nofs ts
  | .scr ts => T.nofs ts
  | .obj _ _ ts => T.nofs ts
  | .dic ks vs => T.nofs ks && T.nofs vs
  | _ => true
def T.nofs : List T → Bool
  | [] => true
  | t :: ts => T.nof t && T.nofs ts
end
def nofSl (s : Sl) : Bool := match s.tree with
  | some t => t.nof
  | none => true
def Ev.wf (E : Ev) (x : Option (Addr × Hp × (Addr → Prop))) : Ev := ⟨E.cl, E.w, E.K, E.tb, x⟩
section
variable {E : Ev} {M : Addr → Prop} {H : Hp} {x : Option (Addr × Hp × (Addr → Prop))}
mutual
theorem Rep.wf : ∀ (t : T) (v : V), t.nof = true → Rep E M H v t → Rep (E.wf x) M H v t
  | .non, _, _, h => by cases h; exact .non
  | .bl _, _, _, h => by cases h; exact .bl _
  | .int _, _, _, h => by cases h; exact .int _
  | .str _, _, _, h => by cases h; exact .str _
  | .tup ts, _, n, h => by
    cases h with
    | tup hm ha hs => exact .tup hm ha (RepAll.wf ts _ n hs)
    | ktup hk hs => exact .ktup hk (RepAll.wf ts _ n hs)
  | .lst ts, _, n, h => by
    cases h with
    | lst hm ha hs => exact .lst hm ha (RepAll.wf ts _ n hs)
  | .scr ts, _, n, h => by
    cases h with
    | scr hm ha hs => exact .scr hm ha (RepAll.wf ts _ n hs)
    | kscr hk hs => exact .kscr hk (RepAll.wf ts _ n hs)
  | .obj c ns ts, _, n, h => by
    cases h with
    | obj hm ha hs => exact .obj hm ha (RepAll.wf ts _ n hs)
  | .dic ks vs, _, n, h => by
    have n : (T.nofs ks && T.nofs vs) = true := n
    rw [Bool.and_eq_true] at n
    cases h with
    | dic hm ha hk h1 h2 => exact .dic hm ha hk (RepAll.wf ks _ n.1 h1) (RepAll.wf vs _ n.2 h2)
  | .rng lo hi, _, _, h => by
    cases h with
    | rng hm ha => exact .rng hm ha
  | .fnc, _, n, h => by cases n
theorem RepAll.wf : ∀ (ts : List T) (vs : List V), T.nofs ts = true → RepAll E M H vs ts → RepAll (E.wf x) M H vs ts
  | [], _, _, h => by cases h; exact .nil
  | t :: ts, _, n, h => by
    have n : (T.nof t && T.nofs ts) = true := n
    rw [Bool.and_eq_true] at n
    cases h with
    | cons h1 h2 => exact .cons (Rep.wf t _ n.1 h1) (RepAll.wf ts _ n.2 h2)
end
theorem Rep.unwf {t : T} {v : V} (n : t.nof = true) (h : Rep (E.wf x) M H v t) : Rep E M H v t := Rep.wf (E := E.wf x) (x := E.fn) t v n h
theorem OwnO.wf {a : Addr} {t : T} {o : HO} (n : t.nof = true) (h : OwnO E M H a t o) : OwnO (E.wf x) M H a t o := by
  cases t with
  | lst ts => obtain ⟨xs, e, h⟩ := h; exact ⟨xs, e, RepAll.wf _ _ n h⟩
  | obj c ns ts => obtain ⟨dx, fs, e, e2, h⟩ := h; exact ⟨dx, fs, e, e2, RepAll.wf _ _ n h⟩
  | dic ks vs =>
    have n : (T.nofs ks && T.nofs vs) = true := n
    rw [Bool.and_eq_true] at n
    obtain ⟨xs, e, e2, h1, h2⟩ := h
    exact ⟨xs, e, e2, RepAll.wf _ _ n.1 h1, RepAll.wf _ _ n.2 h2⟩
  | _ => exact h.elim
theorem nof_tree {s : Sl} {t : T} (h : nofSl s = true) (e : s.tree = some t) : t.nof = true := by
  unfold nofSl at h
  rw [e] at h
  exact h
theorem Good.wf {R : Rc} {P : List Pr2} (g : Good E R H P) (hp : ∀ p ∈ P, nofSl p.2 = true) : Good (E.wf x) R H P :=
  ⟨fun p hx t e => let ⟨v, h1, h2⟩ := g.val p hx t e; ⟨v, h1, h2.wf _ _ (nof_tree (hp p hx) (by rw [e]; rfl))⟩,
   fun p hx t e => let ⟨a, h1, h2, o, h3, h4⟩ := g.own p hx t e; ⟨a, h1, h2, o, h3, h4.wf (nof_tree (hp p hx) (by cases q : p.2 <;> rw [q] at e <;> first | exact e | cases e))⟩,
   g.fr, g.m0, g.inj, g.kp, g.mt, g.ft, g.tb⟩
theorem fnc_keep {f : Addr} {H1 : Hp} {MF : Addr → Prop} {v : V} (h : Rep (E.wf (some (f, H1, MF))) M H v .fnc) : v = .ref f ∧ ∀ b o, H1 b = some o → NT o → ¬ MF b → H b = some o ∧ ¬ M b := by
  cases h with
  | fnc e k =>
    have e : some (f, H1, MF) = some _ := e
    cases e
    exact ⟨rfl, k⟩
theorem ER.fnc {R : Rc} {σ zs : List (Option V)} {z : Z} {i : Nat} {f : Addr} {H1 : Hp} {MF : Addr → Prop} (er : ER (E.wf (some (f, H1, MF))) R σ zs H z) (h : z.l[i]? = some (.val .fnc)) : σ[i]? = some (some (.ref f)) ∧ Rep (E.wf (some (f, H1, MF))) (Mz R σ zs z) H (.ref f) .fnc := by
  obtain ⟨w, hw, hm⟩ := loc_at er.ll h
  obtain ⟨v, q1, q2⟩ := er.ok.val _ (List.mem_append_left _ hm) _ rfl
  obtain ⟨rfl, _⟩ := fnc_keep q2
  dsimp only at q1
  exact ⟨hw.trans (by rw [q1]), q2⟩
end
theorem codeO_nt {c : Addr} {q : Str} : NT (CodeO c q) := fun ps z => by unfold CodeO at z; cases z
/-- the function: what was captured, the body's reading -/
def gAct (caps : List Sl) (fb : EF) : FT
  | [.val t, .val .fnc] => if t.nof = true then (fb ⟨caps ++ [.val t], []⟩).bind fun z => (rv z).bind fun x => if nofSl x.2 = true then some ([.no, .no], x.2) else none else none
  | _ => none
def fAct (i : Nat) (F : FT) (f : EF) : EF := fun z => match z.l[i]? with
  | some (.val .fnc) => (f z).bind fun z1 => match z1.l[i]? with
    | some (.val .fnc) => callK 1 F z1.l z1.k ((z1.k.take 1).reverse ++ [.val .fnc])
    | _ => none
  | _ => none
section
variable {X : Cx} {E : Ev} {pins : List (Addr × Obj)} {σ : L2.St} {H HZ : Hp} {s s1 : Shared}
theorem ed_act {Ng : List Str} {qg : Str} {sg : Scope} {g f c' : Addr} {cdg pm ctv : Value} {params : Arguments} {body e : Expr} {scope : Scope} {k i : Nat} {a y : Str} {fb f1 : EF} {caps : List Sl} {MF : Addr → Prop} {p1 p2 : Pos}
    (I : Inv X pins σ H s) (L : LamS1 X.env.scope scope y) (hy : y ∉ X.N) (hf : s.heap.get? f = some (PySem.W.kla_obj "<lambda>" (X.env.qual ++ "<lambda>") params body scope (cloFrom X.env.cells scope.names []) pm c' ctv)) (hfn : H f = none) (hfr : f ∉ frs X.stack)
    (hbind : ∀ u, bindArgs (PySem.W.kla_fn "<lambda>" (X.env.qual ++ "<lambda>") params body scope (cloFrom X.env.cells scope.names []) pm (.ref c') ctv) ⟨[u], []⟩ = pure [(y, u)])
    (hr : Room (k + 1) (X.A.deeper (envOfC qg sg s.heap.objs.size g cdg)))
    (hcl : caps.length = σ.length) (hcv : ∀ (i : Nat) s, caps[i]? = some s → s = .no ∨ ∃ t w, s = .val t ∧ σ[i]? = some (some w) ∧ Rep E MF H w t) (hco : H c' = some (CodeO c' (X.env.qual ++ "<lambda>"))) (hcm : ¬ MF c')
    (hbody : ∀ (A : Around) (outer : List Env) (s : Shared) (H : Hp), Room k (A.deeper (lamEnv X scope s.heap.objs.size f c')) → ED (lamCx1 X A outer s H L2.E0 scope y f c') E body fb)
    (hN : Ng[i]? = some a) (hv : Vis sg a) (he : ED (cxOf L2.CX0 X.prog X.w X.K X.mg X.base Ng qg sg g cdg X.A X.stack s H L2.E0).nox (E.wf (some (f, H, MF))) e f1)
    (hst : starEach [e] (cxOf L2.CX0 X.prog X.w X.K X.mg X.base Ng qg sg g cdg X.A X.stack s H L2.E0).nox.env = (false, eval e (cxOf L2.CX0 X.prog X.w X.K X.mg X.base Ng qg sg g cdg X.A X.stack s H L2.E0).nox.env) :: starEach [] (cxOf L2.CX0 X.prog X.w X.K X.mg X.base Ng qg sg g cdg X.A X.stack s H L2.E0).nox.env)
    (hd : (a == ("__debug__" : Str)) = false := by decide) (hcd : (a == ("__classdict__" : Str)) = false := by decide) :
    ED (cxOf L2.CX0 X.prog X.w X.K X.mg X.base Ng qg sg g cdg X.A X.stack s H L2.E0).nox (E.wf (some (f, H, MF))) (.Call (.Name a p1) [e] [] p2) (fAct i (gAct caps fb) f1) := by
  have pa := pe_act1 (p1 := p1) (p2 := p2) I L hy hf hfn hfr hbind hr (fun A outer s H hr => (hbody A outer s H hr).pe) hN hv he.pe hst hd hcd
  refine ⟨pe_imp pa fun σZ HZ Q ⟨R, zs, z, z', er, q, c⟩ => ?_⟩
  unfold fAct at q
  split at q
  case h_2 => cases q
  rename_i h0
  obtain ⟨z1, q1, q2⟩ := Option.bind_eq_some_iff.mp q
  split at q2
  case h_2 => cases q2
  rename_i h1
  obtain ⟨hs, _⟩ := er.fnc h0
  refine ⟨hs, R, zs, z, z1, er, q1, fun v H1 e1 => ?_⟩
  obtain ⟨_, hk1⟩ := e1.fnc h1
  refine ⟨((fnc_keep hk1).2 c' _ hco codeO_nt hcm).1, ?_⟩
  obtain ⟨l, k⟩ := z1
  have lk := e1.lk
  obtain ⟨s0, kr, rfl⟩ : ∃ s0 kr, k = s0 :: kr := by
    cases k with
    | nil => cases lk
    | cons s k => exact ⟨s, k, rfl⟩
  have q3 : callK [s0].length (gAct caps fb) l ([s0] ++ kr) ([s0] ++ [.val .fnc]) = some z' := q2
  have q3' := q3
  unfold callK at q3'
  obtain ⟨⟨ss, l'⟩, r1, _⟩ := Option.bind_eq_some_iff.mp q3'
  have ha := (lend_arg r1).2
  have hp := ER.argIs (vs := [v]) (zr := zs) (ka := [s0]) (kr := kr) e1 rfl (fun s hs => ha s (List.mem_append_left _ hs))
  have sp := call_er (n := 2) (F := gAct caps fb) (vs := [v] ++ [.ref f]) (ks := [s0] ++ [.val .fnc]) (za := [some v]) (zr := zs) (ka := [s0]) (kr := kr) (Q := Q) (Ex := L2.E0) e1 rfl (paired_append hp (.cons (show ArgIs (E.wf (some (f, H, MF))) (Mz R σZ ([some v] ++ zs) { l := l, k := [s0] ++ kr }) H1 σZ (.ref f) (.val .fnc) from hk1) .nil)) rfl q3 c
  obtain ⟨FB, M0, ss, os, r, hn, hs2, hal, g, hF, ho, cc⟩ := sp
  unfold gAct at hF
  split at hF
  case h_2 => cases hF
  rename_i t heq
  rw [heq] at g
  obtain ⟨n1, hF⟩ := ite_n hF
  obtain ⟨zb, b1, hF⟩ := Option.bind_eq_some_iff.mp hF
  obtain ⟨⟨lb, rb⟩, b3, hF⟩ := Option.bind_eq_some_iff.mp hF
  obtain ⟨n2, hF⟩ := ite_n hF
  cases hF
  obtain ⟨v', ev, rv1⟩ := g.val (some v, .val t) List.mem_cons_self t rfl
  cases ev
  obtain ⟨v', ev, rf1⟩ := g.val (some (.ref f), .val .fnc) (List.mem_cons_of_mem _ List.mem_cons_self) .fnc rfl
  cases ev
  have kp := (fnc_keep rf1).2
  have key : ∀ x ∈ Pz (σ ++ [some v]) [] ⟨caps ++ [.val t], []⟩, x.2 = .no ∨ ∃ t' w, x.2 = .val t' ∧ x.1 = some w ∧ Rep E FB H1 w t' := fun x hx => by
    have hx : x ∈ (σ ++ [some v]).zip (caps ++ [.val t]) := by simpa [Pz] using hx
    rw [List.zip_append hcl.symm] at hx
    rcases List.mem_append.mp hx with hx | hx
    · obtain ⟨i, hi⟩ := List.mem_iff_getElem?.mp hx
      obtain ⟨h1, h2⟩ := List.getElem?_zip_eq_some.mp hi
      rcases hcv i _ h2 with h | ⟨t', w, h3, h4, h5⟩
      · exact .inl h
      · rw [h4] at h1
        exact .inr ⟨t', w, h3, (Option.some.inj h1).symm, Rep.mvN (fun b o e n m => let ⟨k1, k2⟩ := kp b o e n m; ⟨k1, fun z => k2 (.inl z)⟩) _ _ h5⟩
    · rw [List.mem_singleton.mp hx]
      exact .inr ⟨t, v, rfl, rfl, (rv1.unwf n1).an fun b z => .inl z⟩
  have own : ∀ x ∈ Pz (σ ++ [some v]) [] ⟨caps ++ [.val t], []⟩, x.2.own? = none := fun x hx => by
    rcases key x hx with h | ⟨t', w, h, _⟩ <;> rw [h] <;> rfl
  have mx : ∀ b, Mx ⟨FB, M0, H1, []⟩ (Pz (σ ++ [some v]) [] ⟨caps ++ [.val t], []⟩) b → FB b := fun b z => by
    rcases z with z | ⟨x, hx, ⟨t', e⟩, _⟩
    · exact z
    · rw [own x hx] at e; cases e
  have er2 : ER E ⟨FB, M0, H1, []⟩ (σ ++ [some v]) [] H1 ⟨caps ++ [.val t], []⟩ := by
    refine ⟨by simp [hcl], rfl, ⟨fun x hx t' e => ?_, fun x hx t' e => ?_, fun x hx t' b e => ?_, fun x hx t' b e => ?_, ?_, .rf, g.mt, g.ft, g.tb⟩, (fun w j m => by cases m), fun s hs => ?_, (fun s hs => by cases hs), fun j t' e => ?_⟩
    · rcases key x hx with h | ⟨t2, w, h, h2, h3⟩
      · rw [h] at e; cases e
      · rw [h] at e; cases e
        exact ⟨w, h2, h3.an mx⟩
    · rw [own x hx] at e; cases e
    · have := own x hx; rw [e] at this; cases this
    · have := own x hx; rw [e] at this; cases this
    · exact List.pairwise_iff_forall_sublist.mpr fun {x y} hs b h _ => by
        obtain ⟨⟨t', e⟩, _⟩ := h
        rw [own x (hs.subset List.mem_cons_self)] at e; cases e
    · rcases List.mem_append.mp hs with hs | hs
      · obtain ⟨i, hi⟩ := List.mem_iff_getElem?.mp hs
        rcases hcv i _ hi with h | ⟨t', w, h3, _⟩
        · rw [h]; rfl
        · rw [h3]; rfl
      · rw [List.mem_singleton.mp hs]; rfl
    · dsimp only at e
      rcases List.mem_append.mp (List.mem_of_getElem? e) with hs | hs
      · obtain ⟨i, hi⟩ := List.mem_iff_getElem?.mp hs
        rcases hcv i _ hi with h | ⟨t', w, h3, _⟩
        · cases h
        · cases h3
      · cases List.mem_singleton.mp hs
  refine ⟨_, [], _, zb, er2, b1, fun u H2 e2 => cc u H2 ⟨?_⟩⟩
  have g2 := ER.toOut (vs := []) (m := 0) (os := outs 0 lb) (r := rb) e2 (Nat.zero_le _) (by rw [b3]; rfl)
  have g3 : Good (E.wf (some (f, H, MF))) ⟨FB, M0, H1, []⟩ H2 [(some u, rb)] := by
    refine Good.wf (show Good E _ _ [(some u, rb)] from g2) fun p hp => ?_
    rw [List.mem_singleton.mp hp]; exact n2
  have g4 := (g3.more (x := (some (.ref f), Sl.no)) rfl fun _ e => by cases e).more (x := (some v, Sl.no)) rfl fun _ e => by cases e
  exact g4.perm (List.perm_append_comm (l₁ := [(some v, Sl.no), (some (.ref f), Sl.no)]) (l₂ := [(some u, rb)]))
end
end Fn
set_option Elab.async false
set_option linter.all false
set_option maxRecDepth 100000
set_option maxHeartbeats 4000000
/-! own layer, data: a lambda is handed to a def of two parameters -/
namespace Fn
open PySem PySem.Spec PyProof.Rows L2 Rw LamX
instance exWf {X : Cx} {E : Ev} [h : EX X E] {x : Option (Addr × Hp × (Addr → Prop))} : EX X (E.wf x) := ⟨h.k, h.w⟩
instance exLam {X : Cx} {E : Ev} [h : EX X E] {A : Around} {outer : List Env} {s : Shared} {H : Hp} {Ex : XK} {scope : Scope} {y : Str} {f c' : Addr} : EX (lamCx1 X A outer s H Ex scope y f c') E := ⟨h.k, h.w⟩
section
variable {E : Ev} {M : Addr → Prop} {H H' : Hp} {R : Rc}
mutual
theorem Rep.nof0 (hE : E.fn = none) : ∀ (t : T) (v : V), Rep E M H v t → t.nof = true
  | .non, _, _ => rfl
  | .bl _, _, _ => rfl
  | .int _, _, _ => rfl
  | .str _, _, _ => rfl
  | .tup ts, _, h => by
    cases h with
    | tup hm ha hs => exact RepAll.nof0 hE ts _ hs
    | ktup hk hs => exact RepAll.nof0 hE ts _ hs
  | .lst ts, _, h => by
    cases h with
    | lst hm ha hs => exact RepAll.nof0 hE ts _ hs
  | .scr ts, _, h => by
    cases h with
    | scr hm ha hs => exact RepAll.nof0 hE ts _ hs
    | kscr hk hs => exact RepAll.nof0 hE ts _ hs
  | .obj c ns ts, _, h => by
    cases h with
    | obj hm ha hs => exact RepAll.nof0 hE ts _ hs
  | .dic ks vs, _, h => by
    cases h with
    | dic hm ha hk h1 h2 =>
      show (T.nofs ks && T.nofs vs) = true
      rw [RepAll.nof0 hE ks _ h1, RepAll.nof0 hE vs _ h2]; rfl
  | .rng lo hi, _, h => rfl
  | .fnc, _, h => by
    cases h with
    | fnc e _ => rw [hE] at e; cases e
theorem RepAll.nof0 (hE : E.fn = none) : ∀ (ts : List T) (vs : List V), RepAll E M H vs ts → T.nofs ts = true
  | [], _, h => rfl
  | t :: ts, _, h => by
    cases h with
    | cons h1 h2 =>
      show (T.nof t && T.nofs ts) = true
      rw [Rep.nof0 hE t _ h1, RepAll.nof0 hE ts _ h2]; rfl
end
theorem OwnO.nof0 {a : Addr} {t : T} {o : HO} (hE : E.fn = none) (h : OwnO E M H a t o) : t.nof = true := by
  cases t with
  | lst ts => obtain ⟨xs, e, h⟩ := h; exact RepAll.nof0 hE _ _ h
  | obj c ns ts => obtain ⟨dx, fs, e, e2, h⟩ := h; exact RepAll.nof0 hE _ _ h
  | dic ks vs =>
    obtain ⟨xs, e, e2, h1, h2⟩ := h
    show (T.nofs ks && T.nofs vs) = true
    rw [RepAll.nof0 hE ks _ h1, RepAll.nof0 hE vs _ h2]; rfl
  | _ => exact h.elim
theorem Good.nof0 {P : List Pr2} (hE : E.fn = none) (g : Good E R H P) : ∀ p ∈ P, nofSl p.2 = true := fun p hp => by
  unfold nofSl
  cases q : p.2 with
  | val t => obtain ⟨v, _, h⟩ := g.val p hp t q; exact Rep.nof0 hE _ _ h
  | own t => obtain ⟨a, _, _, o, _, h⟩ := g.own p hp t (by rw [q]; rfl); exact h.nof0 hE
  | io t => obtain ⟨a, _, _, o, _, h⟩ := g.own p hp t (by rw [q]; rfl); exact h.nof0 hE
  | no => rfl
  | ali j => rfl
theorem ER.wf {σ zs : List (Option V)} {z : Z} {x : Option (Addr × Hp × (Addr → Prop))} (er : ER E R σ zs H z) (hp : ∀ p ∈ Pz σ zs z, nofSl p.2 = true) : ER (E.wf x) R σ zs H z :=
  ⟨er.ll, er.lk, er.ok.wf hp, er.al, er.nl, er.nk, er.io⟩
theorem Good.kpt {P : List Pr2} (g : Good E R H P) (k : ∀ a o, H a = some o → NT o → H' a = some o) (tb : Tabs E.tb H') : Good E R H' P :=
  ⟨fun x hx t e => let ⟨v, h1, h2⟩ := g.val x hx t e; ⟨v, h1, h2.mvN (fun a o e n m => ⟨k a o e n, m⟩) _ _⟩,
   fun x hx t e => let ⟨a, h1, h2, h3⟩ := g.own x hx t e; ⟨a, h1, h2, h3.mvN (fun a o e n m => ⟨k a o e n, m⟩) (let ⟨o, q, q2⟩ := h3; (k a o q q2.nt).trans q.symm)⟩,
   g.fr, g.m0, g.inj, fun a o e n m => k a o (g.kp a o e n m) n, fun a h => let ⟨o, e, n⟩ := g.mt a h; ⟨o, k a o e n.1, n⟩, fun a h => let ⟨o, e, n⟩ := g.ft a h; ⟨o, k a o e n.1, n⟩, tb⟩
theorem ER.kpt {σ zs : List (Option V)} {z : Z} (er : ER E R σ zs H z) (k : ∀ a o, H a = some o → NT o → H' a = some o) (tb : Tabs E.tb H') : ER E R σ zs H' z :=
  ⟨er.ll, er.lk, er.ok.kpt k tb, er.al, er.nl, er.nk, er.io⟩
end
def keepVal : Sl → Sl
  | .val t => .val t
  | _ => .no
/-- x(e, lambda y: body): rd is what x's body does with a function, m its other names -/
def fLC (rd : FT → SF) (m : Nat) (fb f0 : EF) : EF := fun z => (f0 z).bind fun z1 => match z1.k with
  | .val t :: k => (callK 1 (runF 2 m (rd (gAct (z1.l.map keepVal) fb))) z1.l (.val t :: k) [.val t, .val .fnc]).bind fun z2 => if (z2.l.all nofSl && z2.k.all nofSl) = true then some z2 else none
  | _ => none
section
variable {X : Cx} {E : Ev}
theorem ed_lamcall {x a b y : Str} {g c P : Addr} {k m : Nat} {pg : Arguments} {bg : List Stmt} {sg : Scope} {dV kV doc pm cdv ct oc : Value} {an od : Option Addr} {osl : Array (Option Value)} {Ng : List Str} {e : Expr} {f0 fb : EF} {rd : FT → SF}
    {params : Arguments} {body : Expr} {scope : Scope} {p lpos pos : Pos} (hE : E.fn = none) (he : ED X E e f0) (hg : Gl X x) (hm : X.mg x = some (.ref g)) (hk : PySem.W.keepIn X.K (.ref g) = true)
    (lk : X.K.lookup g = some ⟨oc, od, .func (PySem.W.fnOf x x pg bg sg dV kV doc pm an cdv ct), osl⟩) (hcg : PySem.W.codeIn X.K cdv x = true) (hb : L2.Binds X.K (PySem.W.fnOf x x pg bg sg dV kV doc pm an cdv ct) [b, a] []) (Sg : FnScope Ng [b, a] sg) (hNg : Ng[1]? = some a) (hva : Vis sg a) (hNl : Ng.length = 2 + m)
    (hs : ∀ (s0 : Shared) (H1 : Hp) (w : Option (Addr × Hp × (Addr → Prop))) (G : FT), Room (k + 1) (X.A.deeper (envOfC x sg s0.heap.objs.size g cdv)) →
      (∀ {e : Expr} {f1 : EF} {p1 p2 : Pos}, ED (cxOf L2.CX0 X.prog X.w X.K X.mg X.base Ng x sg g cdv X.A X.stack s0 H1 L2.E0).nox (E.wf w) e f1 → starEach [e] (cxOf L2.CX0 X.prog X.w X.K X.mg X.base Ng x sg g cdv X.A X.stack s0 H1 L2.E0).nox.env = (false, eval e (cxOf L2.CX0 X.prog X.w X.K X.mg X.base Ng x sg g cdv X.A X.stack s0 H1 L2.E0).nox.env) :: starEach [] (cxOf L2.CX0 X.prog X.w X.K X.mg X.base Ng x sg g cdv X.A X.stack s0 H1 L2.E0).nox.env →
        ED (cxOf L2.CX0 X.prog X.w X.K X.mg X.base Ng x sg g cdv X.A X.stack s0 H1 L2.E0).nox (E.wf w) (.Call (.Name a p1) [e] [] p2) (fAct 1 G f1)) →
      BD (cxOf L2.CX0 X.prog X.w X.K X.mg X.base Ng x sg g cdv X.A X.stack s0 H1 L2.E0).nox (E.wf w) bg (rd G))
    (TB : TabB X.base X.mg c P) (hcode : X.env.code = .ref c) (hmT : (P, X.env.qual ++ "<lambda>") ∈ E.tb) (hu : ∀ p ∈ E.tb, p.1 = P → p.2 = X.env.qual ++ "<lambda>") (hr : Room (k + 2) X.A) (L : LamS1 X.env.scope scope y) (hyN : y ∉ X.N) (hdef : defaultsOf params X.env = ([], []))
    (hbind : ∀ (q : Str) (cl : List (Str × Addr)) (pm cv ctv u : Value), bindArgs (PySem.W.kla_fn "<lambda>" q params body scope cl pm cv ctv) ⟨[u], []⟩ = pure [(y, u)])
    (hbody : ∀ (A : Around) (outer : List Env) (s : Shared) (H : Hp) (f c' : Addr), Room k (A.deeper (lamEnv X scope s.heap.objs.size f c')) → ED (lamCx1 X A outer s H L2.E0 scope y f c') E body fb)
    (hst : starEach [e, .Lambda params body scope lpos] X.env = (false, eval e X.env) :: starEach [.Lambda params body scope lpos] X.env := by rfl)
    (hdb : (x == ("__debug__" : Str)) = false := by decide) (hd : (a == ("__debug__" : Str)) = false := by decide) (hcd : (a == ("__classdict__" : Str)) = false := by decide) :
    ED X E (.Call (.Name x p) [e, .Lambda params body scope lpos] [] pos) (fLC rd m fb f0) := by
  refine ⟨⟨fun pins s σ H Q I h => ?_⟩⟩
  obtain ⟨R, zs, z, z', er, q, cc⟩ := h
  obtain ⟨z1, q1, q2⟩ := Option.bind_eq_some_iff.mp q
  refine wpAny_Call_Name_kw (ld_glob I hg hm ?_ hdb)
  refine PySem.W.callWith_K (h₀ := X.base) I.ok.mod.kin hk ?_ hst (by rfl)
  rw [hst]
  show wpAny _ _ (spliced ((false, eval e X.env) :: backTo pos (starEach [.Lambda params body scope lpos] X.env))) _ _ s
  refine Calls.spliced_cons (thn (he.pe.run pins s σ H (fun v H1 => ER E R σ (some v :: zs) H1 z1) I ⟨R, zs, z, z1, er, q1, fun v H1 e1 => e1⟩) fun u0 s1 ⟨v0, H0, I0, rv0, e1⟩ => ?_)
  show wpAny _ _ (spliced ((false, eval (.Lambda params body scope lpos) X.env) :: backTo pos (starEach [] X.env))) _ _ s1
  refine Calls.spliced_cons (lam_make2 I0 TB hcode hmT hu e1.ok.tb hdef (L.has I0.ok) fun f c' pm' ctv H1 s' I1 eN T1 hf hfn hfr hco => ?_)
  refine Calls.spliced_nil ⟨I1.kIn, ?_⟩
  have e2 : ER E R σ (some v0 :: zs) H1 z1 := e1.kpt (fun a o e n => eN a o e n) T1
  obtain ⟨l, k1⟩ := z1
  split at q2
  case h_2 => cases q2
  rename_i t kr hk1
  have hk1 : k1 = .val t :: kr := hk1
  subst hk1
  obtain ⟨z2, q3, q4⟩ := Option.bind_eq_some_iff.mp q2
  obtain ⟨n2, q5⟩ := ite_n q4
  have e9 : z2 = z' := Option.some.inj q5
  rw [e9] at q3 n2
  rw [Bool.and_eq_true, List.all_eq_true, List.all_eq_true] at n2
  have hmf : ¬ Mz R σ (some v0 :: zs) ⟨l, .val t :: kr⟩ c' := fun z => by
    obtain ⟨o, h1, _, h2⟩ := e2.ok.trkN z
    rw [hco] at h1; cases h1
    exact h2 _ _ rfl
  have rc : codeAny (model X.prog X.w) X.A (.call (.ref g) ⟨[u0, .ref f], []⟩) (CR L2.CX0 X.stack X.prog X.w H1 s' Q L2.E0) s' := by
    refine run_ofS (N := Ng) (ps := [b, a]) (us := [u0, .ref f]) (vs := [v0, .ref f]) lk hcg Sg hr I1.env0 (hb s' [u0, .ref f] I1.kIn rfl) (.cons rv0 (.cons rfl .nil)) rfl fun hr' => ?_
    let w : Option (Addr × Hp × (Addr → Prop)) := some (f, H1, Mz R σ (some v0 :: zs) ⟨l, .val t :: kr⟩)
    have e3 : ER (E.wf w) R σ ([some v0] ++ zs) H1 ⟨l, [.val t] ++ kr⟩ := e2.wf (e2.ok.nof0 hE)
    have hp : Paired (ArgIs (E.wf w) (Mz R σ ([some v0] ++ zs) ⟨l, [.val t] ++ kr⟩) H1 σ) [v0] [.val t] := ER.argIs (vs := [v0]) (zr := zs) (ka := [.val t]) (kr := kr) e3 rfl (fun s hs => .inl ⟨t, List.mem_singleton.mp hs⟩)
    have hfn2 : ArgIs (E.wf w) (Mz R σ ([some v0] ++ zs) ⟨l, [.val t] ++ kr⟩) H1 σ (.ref f) (.val .fnc) := .fnc rfl fun b o e n m => ⟨e, m⟩
    have q3' : callK [Sl.val t].length (runF 2 m (rd (gAct (l.map keepVal) fb))) l ([.val t] ++ kr) ([.val t] ++ [.val .fnc]) = some z' := q3
    have sp := call_er (n := 2) (F := runF 2 m (rd (gAct (l.map keepVal) fb))) (vs := [v0] ++ [.ref f]) (ks := [.val t] ++ [.val .fnc]) (za := [some v0]) (zr := zs) (ka := [.val t]) (kr := kr) (Q := Q) (Ex := L2.E0) e3 rfl (paired_append hp (.cons hfn2 .nil)) rfl q3'
      fun v H' e4 => cc v H' (by
        have e5 : ER ((E.wf w).wf E.fn) R σ (some v :: zs) H' z' := e4.wf fun p hp => by
          rcases List.mem_append.mp hp with hp | hp
          · exact n2.1 _ (List.of_mem_zip hp).2
          · exact n2.2 _ (List.of_mem_zip hp).2
        exact e5)
    obtain ⟨t', rfl, ht⟩ := run_start sp
    refine ⟨_, (hs s' H1 w (gAct (l.map keepVal) fb) hr' fun {e f1 p1 p2} he1 hst1 => ?_).pss.nox, ?_⟩
    · refine ed_act (i := 1) (caps := l.map keepVal) I1 L hyN hf hfn hfr (fun u => hbind _ _ _ _ _ u) hr' (by rw [List.length_map]; exact e2.ll.symm) (fun i s hi => ?_) hco hmf (fun A outer s H hr2 => hbody A outer s H f c' hr2) hNg hva he1 hst1 hd hcd
      rw [List.getElem?_map] at hi
      obtain ⟨s2, h2, rfl⟩ := Option.map_eq_some_iff.mp hi
      cases s2 with
      | val t2 =>
        obtain ⟨w2, hw, hmm⟩ := loc_at e2.ll h2
        obtain ⟨v2, q6, q7⟩ := e2.ok.val _ (List.mem_append_left _ hmm) _ rfl
        exact .inr ⟨t2, v2, rfl, hw.trans (congrArg some q6), q7⟩
      | _ => exact .inl rfl
    · rw [rep_none (n := 2) rfl hNl]
      exact ht
  refine wpAny_call (codeAny_mono rc fun r s2 hq => ?_)
  cases r with
  | error e => exact (show False from hq).elim
  | ok fl =>
    cases fl with
    | ret u => exact I1.after hq
    | next => exact False.elim hq
    | brk => exact False.elim hq
    | cont => exact False.elim hq
end
end Fn
set_option Elab.async false
set_option linter.all false
set_option maxRecDepth 100000
set_option maxHeartbeats 4000000
/-! own layer, data: a def that makes a lambda: its code object told -/
namespace Fn
open PySem PySem.Spec PyProof.Rows L2 Rw LamX
structure FunC (K : PySem.W.Frag) (x qual : Str) (st : Stmt) (f : Addr) (fd : FuncData) (cdv : Value) : Prop where
  ex : ∃ (oc : Value) (od : Option Addr) (kV doc pm : Value) (an : Option Addr) (ct : Value) (osl : Array (Option Value)),
    fd = PySem.W.fnOf x qual (defArgs st) (defBody st) (defScope st) .none kV doc pm an cdv ct ∧ K.lookup f = some ⟨oc, od, .func fd, osl⟩ ∧ PySem.W.codeIn K cdv qual = true
  kp : PySem.W.keepIn K (.ref f) = true
section
variable {K : PySem.W.Frag} {x ql : Str} {st : Stmt} {f : Addr} {fd : FuncData} {cdv : Value}
theorem FunC.fn (F : FunC K x ql st f fd cdv) : Fun K x ql st f fd := let ⟨oc, od, kV, doc, pm, an, ct, osl, h⟩ := F.ex; ⟨⟨oc, od, kV, doc, pm, an, cdv, ct, osl, h⟩, F.kp⟩
theorem fdc_ok {P : Program} {w : World} {mg : Str → Option Value} {base : Heap} {N ps : List Str} {k : Nat} {E : Ev} {s : SF} (F : FunC K x ql st f fd cdv) (S : FnScope N ps (defScope st)) (m : Nat) (hm : N.length = ps.length + m)
    (hb : ∀ (A : Around) (ou : List Env) (s0 : Shared) (H : Hp) (Ex : XK), Room k (A.deeper (envOfC ql (defScope st) s0.heap.objs.size f cdv)) → BD (cxOf CX0 P w K mg base N ql (defScope st) f cdv A ou s0 H Ex).nox E (defBody st) s) :
    FnOk P w K mg base CX0 (k + 1) f fd ps (spF E ps.length (runF ps.length m s)) := by
  obtain ⟨oc, od, kV, doc, pm, an, ct, osl, rfl, lk, hcd⟩ := F.ex
  refine fn_of lk hcd S (fun vs H Q Ex h => sp_len h) fun A ou s0 H vs Q Ex hr h => ?_
  obtain ⟨t, rfl, ht⟩ := run_start h
  refine ⟨_, (hb A ou s0 H Ex hr).pss.nox, ?_⟩
  rw [rep_none (sp_len h) hm]
  exact ht
theorem tb_uniq {tb : List (Addr × Str)} {P : Addr} {q : Str} (h : (tb.map (·.1)).Nodup) (hm : (P, q) ∈ tb) : ∀ p ∈ tb, p.1 = P → p.2 = q := by
  induction tb with
  | nil => cases hm
  | cons y ys ih =>
    rw [List.map_cons, List.nodup_cons] at h
    intro p hp e
    rcases List.mem_cons.mp hm with hm | hm
    · rcases List.mem_cons.mp hp with hp | hp
      · rw [hp, ← hm]
      · exact absurd (List.mem_map.mpr ⟨p, hp, by rw [e, ← hm]⟩) h.1
    · rcases List.mem_cons.mp hp with hp | hp
      · exact absurd (List.mem_map.mpr ⟨_, hm, by rw [← hp]; exact e.symm⟩) h.1
      · exact ih h.2 hm p hp e
end
end Fn
set_option Elab.async false
set_option linter.all false
set_option maxRecDepth 100000
set_option maxHeartbeats 4000000
/-! own layer, data: sorted(d) of a dict whose keys are tuples -/
namespace Fn
open PySem PySem.Spec PyProof.Rows L2 Rw LamX
def rSortS (K : PySem.W.Frag) (S : Hp → Addr → List V → Prop) : List V → Hp → VK → Prop := fun vs H Q => ∃ (a : Addr) (zs : List (V × PyData)), vs = [.ref a] ∧ S H a (zs.map (·.1)) ∧ (∀ z ∈ zs, Dp K H z.1 z.2 ∧ z.2.depth ≤ 60) ∧ PySem.W.AllAlike (zs.map (·.2)) ∧ PySem.W.Sortable (zs.map (·.2)) ∧
  ∀ p, H p = none → Q (.ref p) (upd H p (.lst ((zs.mergeSort (PySem.W.dataLe false (·.2))).map (·.1))))
theorem sort_core {X : Cx} {E : Ev} [EX X E] {S : Hp → Addr → List V → Prop} {M : Addr → Prop} {H : Hp} {a : Addr} {vs : List V} {us : List T} {Q : VK} (e : Ty) (r1 : S H a vs) (r2 : RepAll E M H vs us)
    (hty : hasTyV e us = true) (hso : sortOk e us = true) (hdp : Nat.ble e.dep 60 = true) (c : ∀ v H', Res E M H H' v (.own (.lst (sortT us))) → Q v H') : rSortS X.K S [.ref a] H Q := by
  obtain ⟨z1, z2, z3⟩ := rep_zip r2
  let f : V × T → V × PyData := fun w => (w.1, datG w.2)
  have mem : ∀ w ∈ vs.zip us, hasTy e w.2 = true := fun w hw => hasTy_mem hty (by rw [← z2]; exact List.mem_map_of_mem hw)
  have dat : ∀ w ∈ vs.zip us, ∃ d, w.2.dat = some d ∧ datG w.2 = d ∧ d.depth ≤ e.dep := fun w hw => by
    obtain ⟨d, h1, h2⟩ := ty_dat e w.2 (mem w hw)
    exact ⟨d, h1, by unfold datG; rw [h1]; rfl, h2⟩
  have hsort : ((vs.zip us).map f).mergeSort (PySem.W.dataLe false (·.2)) = ((vs.zip us).mergeSort fun a b => leT2 a.2 b.2).map f := by
    refine (PySem.W.sort_maps f fun a _ b _ => ?_).symm
    rfl
  have hsn : ((vs.zip us).mergeSort fun a b => leT2 a.2 b.2).map Prod.snd = sortT us := by
    rw [PySem.W.sort_maps Prod.snd (s := leT2) fun a _ b _ => rfl, z2]
    exact (isort_eq total2 us).symm
  refine ⟨a, (vs.zip us).map f, rfl, ?_, fun z hz => ?_, fun d hd d' hd' => ?_, ?_, fun p hp => ?_⟩
  · rw [List.map_map]
    show S H a ((vs.zip us).map Prod.fst)
    rw [z1]
    exact r1
  · obtain ⟨w, hw, rfl⟩ := List.mem_map.mp hz
    obtain ⟨d, h1, h2, h3⟩ := dat w hw
    refine ⟨?_, ?_⟩
    · show Dp X.K H w.1 (datG w.2)
      rw [h2]
      exact dp_k (Rep.dp _ _ _ (z3 w hw) h1)
    · show (datG w.2).depth ≤ 60
      rw [h2]
      exact Nat.le_trans h3 (Nat.le_of_ble_eq_true hdp)
  · rw [List.map_map] at hd hd'
    obtain ⟨w, hw, rfl⟩ := List.mem_map.mp hd
    obtain ⟨w', hw', rfl⟩ := List.mem_map.mp hd'
    obtain ⟨d, h1, h2, h3⟩ := dat w hw
    obtain ⟨d', h4, h5, h6⟩ := dat w' hw'
    show PySem.W.alike (datG w.2) (datG w'.2) = true
    rw [h2, h5]
    exact ty_alike e _ _ _ _ (mem w hw) (mem w' hw') h1 h4
  · rw [List.map_map]
    have all : ∀ d ∈ (vs.zip us).map ((fun z : V × PyData => z.2) ∘ f), ∃ t ∈ us, hasTy e t = true ∧ t.dat = some d := fun d hd => by
      obtain ⟨w, hw, rfl⟩ := List.mem_map.mp hd
      obtain ⟨d, h1, h2, h3⟩ := dat w hw
      exact ⟨w.2, by rw [← z2]; exact List.mem_map_of_mem hw, mem w hw, h1.trans (congrArg some h2.symm)⟩
    cases e with
    | int =>
      refine .inr fun d hd => ?_
      obtain ⟨t, _, ht, htd⟩ := all d hd
      match t, ht, htd with
      | .int i, _, htd => cases htd; exact ⟨by simp, by simp⟩
    | str =>
      refine .inr fun d hd => ?_
      obtain ⟨t, _, ht, htd⟩ := all d hd
      match t, ht, htd with
      | .str i, _, htd => cases htd; exact ⟨by simp, by simp⟩
    | bl =>
      refine .inr fun d hd => ?_
      obtain ⟨t, _, ht, htd⟩ := all d hd
      match t, ht, htd with
      | .bl i, _, htd => cases htd; exact ⟨by simp, by simp⟩
    | tupv e =>
      refine .inl fun d hd => ?_
      obtain ⟨t, hm, ht, htd⟩ := all d hd
      have := List.all_eq_true.mp hso t hm
      split at this
      · obtain ⟨ds, h1, rfl⟩ := dat_tup htd
        obtain ⟨x, ds1, rfl, _, _⟩ := dats_cons h1
        exact ⟨x, ds1, rfl⟩
      · cases this
    | tupf es =>
      cases es with
      | nil => cases hso
      | cons e es =>
        refine .inl fun d hd => ?_
        obtain ⟨t, hm, ht, htd⟩ := all d hd
        cases t with
        | tup ts =>
          cases ts with
          | nil => cases ht
          | cons u ts =>
            obtain ⟨ds, h1, rfl⟩ := dat_tup htd
            obtain ⟨x, ds1, rfl, _, _⟩ := dats_cons h1
            exact ⟨x, ds1, rfl⟩
        | _ => cases ht
  · rw [hsort, List.map_map]
    refine c _ _ ⟨p, _, H, fun _ _ q => q, hp, rfl, rfl, _, rfl, ?_⟩
    rw [← hsn]
    show RepAll E M H (((vs.zip us).mergeSort fun a b => leT2 a.2 b.2).map fun w => w.1) (((vs.zip us).mergeSort fun a b => leT2 a.2 b.2).map fun w => w.2)
    exact RepAll.map fun w hw => z3 w ((List.mergeSort_perm ..).mem_iff.mp hw)

theorem vals_refs : ∀ (xs : List (NestedKey × Addr × V)), Vals (xs.map fun x => V.ref x.2.1) (xs.map fun x => Value.ref x.2.1)
  | [] => .nil
  | _ :: xs => .cons rfl (vals_refs xs)
def SDic (w : World) : Hp → Addr → List V → Prop := fun H a vs => ∃ xs, H a = some (DicO w a xs) ∧ vs = xs.map fun x => .ref x.2.1
theorem cr_sortDic {X : Cx} (hcalm : X.calm = true) (hu : X.A.units + 64 < cLine) : CallR X (.builtin "sorted") (rSortS X.K (SDic X.w)) := by
  intro pins s σ H vs us Q I r h
  obtain ⟨a, zs, rfl, ⟨xs, hd, hv⟩, hdd, h1, h2, q⟩ := h
  rw [Vals.ref1 r]
  obtain ⟨⟨o, es, ep, ho, hx, hdat, hs, hn, h8, hl, hp⟩, _⟩ := I.hok a _ hd
  have raw : s.heap.DictRaw a es ep := ⟨o, ho, hx, hdat⟩
  have pk : ∀ {xs : List (NestedKey × Addr × V)} {es : List DictEntry}, Paired (fun (x : NestedKey × Addr × V) (e : DictEntry) => e.hash = x.1.hash X.w ∧ e.key = .ref x.2.1 ∧ RelV x.2.2 e.val) xs es → es.map (·.key) = xs.map fun x => Value.ref x.2.1 := fun h => by
    induction h with
    | nil => rfl
    | cons r _ ih => rw [List.map_cons, List.map_cons, r.2.1, ih]
  have ek := pk hp
  have ezl : zs.length = xs.length := by
    have := congrArg List.length hv
    rwa [List.length_map, List.length_map] at this
  have esl : es.size = xs.length := by
    have := congrArg List.length ek
    rwa [List.length_map, List.length_map, Array.length_toList] at this
  have hsz : es.size ≤ sizeLine := by rw [esl]; exact Nat.le_trans hl (by decide)
  refine Calls.call_function_entry PyProof.Rows.kind_sorted PyProof.Rows.plain_sorted PyProof.Rows.entry_sorted (PyProof.Rows.args_sorted1 _) ?_
  unfold Builtin.«sorted»
  refine wpAny_bind (m := checkCount "sorted" 1 1 _) (wpAny_pure ?_)
  refine wpAny_bind (PySem.W.kdu_collect (A := X.A.in1) (PySem.KdlSrc.rawDict hs) (I.ok.hd hcalm) raw hsz fun h' tk acc hk hacc => ?_)
  have eacc : acc.toList = es.toList.map (·.key) := by
    refine List.ext_getElem? fun j => ?_
    rw [List.getElem?_map, Array.getElem?_toList, Array.getElem?_toList]
    cases e1 : acc[j]? with
    | none =>
      have : acc.size ≤ j := by simpa using e1
      rw [hacc.1] at this
      rw [Array.getElem?_eq_none this]; rfl
    | some v =>
      obtain ⟨hi, rfl⟩ := hacc.2 j v e1
      rw [Array.getElem?_eq_getElem hi]; rfl
  have rv : Vals (zs.map (·.1)) acc.toList := by
    rw [eacc, ek, hv]
    exact vals_refs xs
  have I1 : Inv X pins σ H { s with heap := h', toks := tk } := I.kept hk
  have hz : zs.length ≤ sizeLine := by rw [ezl]; exact Nat.le_trans hl (by decide)
  have hal : acc.toList.length = zs.length := by rw [eacc, List.length_map, Array.length_toList, esl, ezl]
  refine wpAny_bind (wpAny_newList ?_ (by rw [hal]; exact hz))
  have hoL : (h'.push (seqObj "list" acc.toList.toArray 0)).get? h'.objs.size = some (seqObj "list" acc.toList.toArray 0) := Heap.get?_push_size _ rfl
  show wpAny _ _ _ _ _ { s with heap := h'.push (seqObj "list" acc.toList.toArray 0), toks := tk }
  have e1 : PySem.W.EachIs (fun u (z : V × PyData) => RelV z.1 u) acc.toList zs := each_of rv fun z _ u h => h
  have e2 : PySem.W.EachIs (fun u (z : V × PyData) => ∃ as, Reads (PySem.W.sortingHeap (h'.push (seqObj "list" acc.toList.toArray 0)) h'.objs.size acc.toList) u z.2 as) acc.toList zs := each_of rv fun z hz u h => by
    obtain ⟨as, hr⟩ := Dp.reads I1 z.2 z.1 u (hdd z hz).1 h
    exact ⟨as, PyProof.Rows.Reads.keeps (fun b o e => PySem.W.sortingHeap_old (Nat.ne_of_lt (Heap.lt_size e)) (Heap.get?_push_of_some _ e)) hr⟩
  have fin : ∀ out : List Value, out.length = zs.length → PySem.W.EachIs (fun u (z : V × PyData) => RelV z.1 u) out (zs.mergeSort (PySem.W.dataLe false (·.2))) →
      EP X pins σ Q (.ref h'.objs.size) { s with heap := PyProof.Rows.sortedHeap (h'.push (seqObj "list" acc.toList.toArray 0)) h'.objs.size acc.toList out.toArray, toks := tk } := fun out ho eo => by
    obtain ⟨e', he'⟩ := PyProof.Rows.sortedHeap_at (vs := acc.toList) (out := out.toArray) hoL
    refine ⟨.ref h'.objs.size, upd H h'.objs.size (.lst ((zs.mergeSort (PySem.W.dataLe false (·.2))).map (·.1))), I1.laid (t' := tk) (fun b u e => ?_) (Nat.le_refl _) ⟨?_, out, e', vals_of eo, he'⟩, rfl, q _ (I1.hok.fresh (Nat.le_refl _))⟩
    · have hb : b < h'.objs.size := Heap.lt_size e
      rw [PyProof.Rows.sortedHeap_old (Nat.ne_of_lt hb) (by rw [PyProof.Rows.size_push']; exact Nat.lt_succ_of_lt hb)]
      exact Heap.get?_push_of_some _ e
    · rw [List.length_map, List.length_mergeSort]; exact hz
  refine wpAny_bind (wpAny_holding (wpAny_call_entry PyProof.Rows.slot_list_sort ⟨_, hoL, rfl⟩ PyProof.Rows.entry_list_sort
    (PySem.W.list_sort_vals (κ := PySem.W.dataKind (PySem.W.sortingHeap (h'.push (seqObj "list" acc.toList.toArray 0)) h'.objs.size acc.toList) (zs.map (·.2))) (s := { s with heap := h'.push (seqObj "list" acc.toList.toArray 0), toks := tk }) hoL
      (PySem.W.SortsAt.data (s := { s with heap := PySem.W.sortingHeap (h'.push (seqObj "list" acc.toList.toArray 0)) h'.objs.size acc.toList, toks := tk }) (PySem.W.each_map (R := fun v d => ∃ as, Reads (PySem.W.sortingHeap (h'.push (seqObj "list" acc.toList.toArray 0)) h'.objs.size acc.toList) v d as) (fun z : V × PyData => z.2) e2) h1 h2 (PySem.W.bound_map (fun b hb => by have := (hdd b hb).2; have h9 : X.A.in1.in1.units = X.A.units + 2 := rfl; omega))) (by rw [hal]; exact hz) ⟨.none, rfl, wpAny_pure ⟨_, rfl, fin _ (by rw [PySem.W.sortVals_length false rfl]; exact e1.length) (PySem.W.sortVals_data false e1 e2 h1)⟩⟩) (PyProof.Rows.args_list_sort _)))
/-- sorted(d) -/
def oSortDic (e : Ty) : ON := fun ts => match ts with
  | [.dic us vs] => if (hasTyV e us && sortOk e us && Nat.ble e.dep 60) = true then some (.own (.lst (sortT us))) else none
  | _ => none
theorem ok_sortDic {X : Cx} {E : Ev} [ex : EX X E] (e : Ty) : OkC E (rSortS X.K (SDic X.w)) (oSortDic e) := fun M H xs ts s Q k hs ho c => by
  unfold oSortDic at ho
  split at ho
  · rename_i us vs
    obtain ⟨h1, h2⟩ := ite_some' ho
    subst h2
    rw [Bool.and_eq_true, Bool.and_eq_true] at h1
    obtain ⟨⟨hty, hso⟩, hdp⟩ := h1
    obtain ⟨x, rfl, r⟩ := seen1 hs
    obtain ⟨a, ys, rfl, r1, r2, r3, r4⟩ := r.dic
    exact sort_core (S := SDic X.w) e ⟨ys, by rw [← ex.w]; exact r1, rfl⟩ r3 hty hso hdp c
  · cases ho
end Fn
set_option Elab.async false
set_option linter.all false
set_option maxRecDepth 100000
set_option maxHeartbeats 4000000
/-! own layer, data: max(ints), max(ints, default=) -/
namespace Fn
open PySem PySem.Spec PyProof.Rows L2 Rw LamX
def mxI (x : Int) (xs : List Int) : Int := xs.foldl (fun a y => if a < y then y else a) x
theorem mxI_eq (x : Int) (xs : List Int) : PySem.W.maxOf x xs = mxI x xs := by
  unfold PySem.W.maxOf mxI
  refine congrArg (fun f => List.foldl f x xs) (funext fun a => funext fun y => ?_)
  show (if decide (a < y) = true then y else a) = _
  simp only [decide_eq_true_eq]
theorem mxI_spec : ∀ (xs : List Int) (x : Int), (mxI x xs = x ∨ mxI x xs ∈ xs) ∧ x ≤ mxI x xs ∧ ∀ y ∈ xs, y ≤ mxI x xs
  | [], x => ⟨.inl rfl, Int.le_refl _, fun y h => by cases h⟩
  | y :: ys, x => by
    have e : mxI x (y :: ys) = mxI (if x < y then y else x) ys := rfl
    rw [e]
    obtain ⟨h1, h2, h3⟩ := mxI_spec ys (if x < y then y else x)
    refine ⟨?_, ?_, fun z hz => ?_⟩
    · rcases h1 with h1 | h1
      · rw [h1]
        split
        · exact .inr List.mem_cons_self
        · exact .inl rfl
      · exact .inr (List.mem_cons_of_mem _ h1)
    · refine Int.le_trans ?_ h2
      split <;> omega
    · rcases List.mem_cons.mp hz with rfl | hz
      · refine Int.le_trans ?_ h2
        split <;> omega
      · exact h3 z hz
def oMax1 : ON := fun ts => match ts with
  | [.lst us] => (intsT us).bind fun ns => match ns with
    | y :: ys => some (.val (.int (mxI y ys)))
    | [] => none
  | _ => none
theorem ok_max1 {X : Cx} {E : Ev} : OkC E (rMax X.K) oMax1 := fun M H xs ts s Q k hs ho c => by
  unfold oMax1 at ho
  split at ho
  · rename_i us
    obtain ⟨ns, h1, h2⟩ := Option.bind_eq_some_iff.mp ho
    split at h2
    · rename_i y ys
      cases h2
      obtain ⟨x, rfl, r⟩ := seen1 hs
      obtain ⟨a, vs, rfl, r1, r2⟩ := r.lst
      rw [intsT_eq h1] at r2
      refine ⟨a, y :: ys, rfl, .inl (by rw [← r2.ints]; exact r1), Nat.succ_pos _, fun m hm hle => ?_⟩
      obtain ⟨p1, p2, p3⟩ := mxI_spec ys y
      have e : m = mxI y ys := by
        refine Int.le_antisymm ?_ (hle _ ?_)
        · rcases List.mem_cons.mp hm with rfl | hm
          · exact p2
          · exact p3 m hm
        · rcases p1 with p1 | p1
          · rw [p1]; exact List.mem_cons_self
          · exact List.mem_cons_of_mem _ p1
      rw [e]
      exact c _ _ (res_v (.int _))
    · cases h2
  · cases ho
def rMaxDef (K : PySem.W.Frag) : List V → List V → Hp → VK → Prop := fun vs zs H Q => ∃ (a : Addr) (ns : List Int) (d : V), vs = [.ref a] ∧ zs = [d] ∧ SqL K H a (ns.map V.int) ∧ (ns = [] → Q d H) ∧ ∀ y ys, ns = y :: ys → Q (.int (mxI y ys)) H
theorem hold_ints {h : Heap} : ∀ {us : List Value} {ns : List Int}, IntsAre us ns → PySem.W.HoldAll h us ns
  | _, _, .nil => ⟨[], .nil⟩
  | _, _, .cons n t r => let ⟨as, q⟩ := hold_ints (h := h) r; ⟨[] ++ as, .cons (.int n t) q⟩
theorem cr_maxDef {X : Cx} (hcalm : X.calm = true) (hu : X.A.units + 64 < cLine) : CallRK X (.builtin "max") ["default"] (rMaxDef X.K) := by
  intro pins s σ H xs zs us ws Q I r rw' h
  obtain ⟨a, ns, d, rfl, rfl, hs, h0, h1⟩ := h
  obtain ⟨its, rv, hl, _⟩ := I.list hs
  rw [Vals.ref1 r]
  obtain ⟨w, rfl, rd⟩ : ∃ w, ws = [w] ∧ RelV d w := by
    cases rw' with
    | cons r1 r2 => cases r2; exact ⟨_, rfl, r1⟩
  show wpAny _ _ (call (.builtin "max") [.ref a] [(Str.ofString "default", w)]) _ _ _
  refine PySem.W.max_list_datum_default (α := Int) (xs := ns) (I.ok.hd hcalm) hl.isList (by simpa using hold_ints rv.ints) (show X.A.units + 1 + 0 < cLine by omega) (fun e h' tk hk => ⟨d, H, I.kept hk, rd, h0 e⟩) fun y ys i v h' tk e hi hv hk => ?_
  obtain ⟨as, hv⟩ := hv
  rw [mxI_eq] at hv
  have hv : Reads h' v (.int (mxI y ys)) as := hv
  cases hv with
  | int _ t => exact ⟨.int _, H, I.kept hk, ⟨t, rfl⟩, h1 y ys e⟩
def mxDef (d : Int) : List Int → Int
  | [] => d
  | y :: ys => mxI y ys
def fMaxDef (f g : EF) : EF := fun z => (f z).bind fun z1 => (g z1).bind fun z2 => match pp z2 with
  | some (.int d, z3) => match pp z3 with
    | some (.lst ts, z4) => (intsT ts).bind fun ns => some ⟨z4.l, .val (.int (mxDef d ns)) :: z4.k⟩
    | _ => none
  | _ => none
theorem ed_maxDef {X : Cx} {E : Ev} {e a d : Expr} {nm : Option Str} {kpos : Pos} {f g : EF} (hq : ∀ {t tk : TA}, PA X [a] t → PK X [⟨nm, d, kpos⟩] tk → PE X e (tCKw (rMaxDef X.K) t tk)) (ha : AD X E [a] f) (hd : ED X E d g) : ED X E e (fMaxDef f g) := ⟨pe_imp (hq ha.pa (pk_cons hd.pe pk_nil)) fun σ H Q ⟨R, zs, z, z', er, q, c⟩ => by
  obtain ⟨z1, q1, q2⟩ := Option.bind_eq_some_iff.mp q
  obtain ⟨z2, q3, q4⟩ := Option.bind_eq_some_iff.mp q2
  refine ⟨R, zs, z, z1, er, q1, fun vs H1 hl e1 => ?_⟩
  obtain ⟨v, rfl⟩ : ∃ v, vs = [v] := by
    match vs, hl with
    | [v], _ => exact ⟨v, rfl⟩
  refine ⟨R, some v :: zs, z1, z2, e1, q3, fun x H2 e2 => ?_⟩
  show rMaxDef X.K [v] [x] H2 Q
  split at q4
  case h_2 => cases q4
  rename_i d z3 q5
  split at q4
  case h_2 => cases q4
  rename_i ts z4 q6
  obtain ⟨ns, q7, q8⟩ := Option.bind_eq_some_iff.mp q4
  cases q8
  obtain ⟨_, ev, e3, r3⟩ := e2.pp q5
  cases ev
  obtain ⟨_, ev, e4, r4⟩ := e3.pp q6
  cases ev
  obtain ⟨b, xs, rfl, r5, r6⟩ := r4.lst
  rw [intsT_eq q7] at r6
  have done : Q (.int (mxDef d ns)) H2 := c _ _ (ER.pval (l := z4.l) (k := z4.k) e4 (.int _))
  refine ⟨b, ns, x, rfl, rfl, .inl (by rw [← r6.ints]; exact r5), fun e => ?_, fun y ys e => ?_⟩
  · rw [r3.int]; rw [e] at done; exact done
  · rw [e] at done; exact done⟩
end Fn
set_option Elab.async false
set_option linter.all false
set_option maxRecDepth 100000
set_option maxHeartbeats 4000000
/-! own layer, data: xs != [] -/
namespace Fn
open PySem PySem.Spec PyProof.Rows L2 Rw LamX
def rNeE (K : PySem.W.Frag) : R2 := fun x y H Q => ∃ (a b : Addr) (xs : List V), x = .ref a ∧ y = .ref b ∧ SqL K H a xs ∧ SqL K H b [] ∧ Q (.bl (!xs.isEmpty)) H
theorem op_neE {X : Cx} (hu : X.A.units + 64 < cLine) : OpR X (compareOp .NotEq) (rNeE X.K) := by
  intro pins s σ H x y v u Q I rx ry h
  obtain ⟨a, b, xs, rfl, rfl, h1, h2, q⟩ := h
  obtain ⟨its, rv, hl, _⟩ := I.list h1
  obtain ⟨its2, rv2, hl2, _⟩ := I.list h2
  cases rx
  cases ry
  cases rv2
  show wpAny _ _ (richCompare .NotEq (.ref a) (.ref b)) _ _ s
  have fin : EP X pins σ Q (.bool (!xs.isEmpty)) s := ⟨.bl _, H, I, rfl, q⟩
  cases rv with
  | nil => exact SeqAt.RcNeAt.lists (e := fun _ => true) hl.isList hl2.isList rfl (by omega) (fun j h1 _ => absurd h1 (Nat.not_lt_zero _)) _ _ _ _ fin
  | cons r t => exact SeqAt.RcNeAt.lists_lengths hl.isList hl2.isList rfl (by omega) _ _ _ _ fin
def oNeE : O2 := fun x y => match x, y with
  | .lst ts, .lst [] => some (.val (.bl (!ts.isEmpty)))
  | _, _ => none
theorem ok_neE {X : Cx} {E : Ev} : Ok2 E (rNeE X.K) oNeE := fun M H x y tx ty s Q k hx hy ho c => by
  unfold oNeE at ho
  split at ho
  · rename_i ts
    cases ho
    obtain ⟨a, xs, rfl, r1, r2⟩ := hx.lst
    obtain ⟨b, ys, rfl, r3, r4⟩ := hy.lst
    cases r4
    refine ⟨a, b, xs, rfl, rfl, .inl r1, .inl r3, ?_⟩
    rw [← isEmpty_rep r2]
    exact c _ _ (res_v (.bl _))
  · cases ho
end Fn
set_option Elab.async false
set_option linter.all false
set_option maxRecDepth 100000
set_option maxHeartbeats 4000000
/-! own layer, data: defs as the head's facts tell them -/
namespace Fn
open PySem PySem.Spec PyProof.Rows L2 Rw LamX
section
variable {K : PySem.W.Frag} {x ql : Str} {st : Stmt} {f : Addr} {fd : FuncData}
theorem fun_of (F : FunD K x ql (defArgs st) (defBody st) (defScope st) [] [] f fd) : Fun K x ql st f fd := by
  obtain ⟨oc, od, dV, kV, doc, pm, an, cdv, ct, osl, h1, h2, h3, h4, h5⟩ := F.ex
  rcases h4 with ⟨_, rfl⟩ | ⟨h, _⟩
  · exact ⟨⟨oc, od, kV, doc, pm, an, cdv, ct, osl, h1, h2, h3⟩, F.kp⟩
  · exact absurd rfl h
theorem func_of {p : Str × Option Str} (F : FunD K x ql (defArgs st) (defBody st) (defScope st) [] [] (He.fAd K p) fd) : FunC K x ql st (He.fAd K p) fd (.ref (He.cT K p).1) := by
  obtain ⟨oc, od, kV, doc, pm, an, cdv, ct, osl, h1, h2, h3⟩ := (fun_of F).ex
  obtain ⟨c, rfl⟩ := He.codeIn_ref h3
  subst h1
  have e : He.codeOf K p = c := He.codeOf_eq h2 rfl
  exact ⟨⟨oc, od, kV, doc, pm, an, ct, osl, by show _ = PySem.W.fnOf _ _ _ _ _ _ _ _ _ _ (.ref (He.codeOf K p)) _; rw [e], h2, by show PySem.W.codeIn K (.ref (He.codeOf K p)) ql = true; rw [e]; exact h3⟩, F.kp⟩
end
/-- the end of a law with tables of code objects, over a head told by facts -/
theorem walk_ofETs {l : PySem.W.OpenLaw} {n k : Nat} {q : Program} {loose : List Str} {XP : (Str → Option Value) → Heap → Prop} {YP : World → Heap → Prop} {d : DefRec} {CX : World → CXT} {x : Str}
    (hn : l.most = some n) (hn2 : n ≤ sizeLine) (hdf : d.params.defaults = []) (hr : Room k callerA)
    (F : ∀ (w : World) (mg : Str → Option Value) (fa : Addr) (h : Heap), YP w h → h.Ns mainGlobals mg → mg d.name = some (.ref fa) → ∃ K : PySem.W.Frag, K.In h ∧ LawAtS l w K (CX w) k n x mg fa h)
    (hCX : ∀ (w : World) (H : Hp) (s : Shared) (e : Value) (s' : Shared), CX w [] H s (fun _ _ _ => False) e s' → False) :
    PySem.W.WalkO q loose XP YP l.row.toRowW d [] (fun f vs => PySem.call f vs) := by
  refine Att.attach_callB hn hdf fun w s₀ s₁ mg mb fa o pm cd doc a vs ns G Y ho hd hcd hmg hobj hints hlen hbits hg => ?_
  obtain ⟨K, KX, fd, cs, sp, hT, nT, C, hb, hsp, hF⟩ := F w mg fa _ Y G.T.g hmg
  exact law_callTs KX G.T.g G.T.b G.T.builtins G.T.nolimit hg hT nT C G.T.bmain hobj hints (Nat.le_trans hlen hn2) hr hF hb (fun H hH hS => hsp H a ns hlen hbits hH hS) fun H e s' => hCX w H s₁ e s'
/-! tuples of texts at the module's top -/
def strOf : Value → Option Str
  | .str x _ => some x
  | _ => none
def tupB (K : PySem.W.Frag) (x : Str) (ws : List Str) : Bool := match K.lookup (He.ga K x) with
  | some ⟨.type c, _, .seq its _, _⟩ => decide (c = "tuple") && (Nat.ble its.size 1000 && decide (its.toList.map strOf = ws.map some))
  | _ => false
theorem strs_vals : ∀ {us : List Value} {ws : List Str}, us.map strOf = ws.map some → Vals (ws.map V.str) us
  | [], [], _ => .nil
  | [], _ :: _, h => by cases h
  | _ :: _, [], h => by cases h
  | u :: us, w :: ws, h => by
    rw [List.map_cons, List.map_cons] at h
    injection h with h1 h2
    refine .cons ?_ (strs_vals h2)
    cases u with
    | str y t => cases h1; exact ⟨t, rfl⟩
    | _ => cases h1
theorem tupB_ok {K : PySem.W.Frag} {x : Str} {ws : List Str} (h : tupB K x ws = true) (H : Hp) : SqT K H (He.ga K x) (ws.map V.str) := by
  unfold tupB at h
  split at h
  · rename_i c dd its n sl e
    rw [Bool.and_eq_true, Bool.and_eq_true] at h
    obtain ⟨h1, h2, h3⟩ := h
    have h1 := of_decide_eq_true h1
    exact .inr ⟨_, its, n, e, by rw [h1], rfl, Nat.le_trans (Nat.le_of_ble_eq_true h2) (by decide), strs_vals (of_decide_eq_true h3)⟩
  · cases h
end Fn
set_option Elab.async false
set_option linter.all false
set_option maxRecDepth 100000
set_option maxHeartbeats 4000000
/-! own layer, data: calls with keywords -/
namespace Fn
open PySem PySem.Spec PyProof.Rows L2 Rw
/-- the i-th values, in this order -/
def pk {α : Type} (is : List Nat) (xs : List α) : List α := is.filterMap fun i => xs[i]?
theorem paired_get {α β : Type} {F : α → β → Prop} : ∀ {xs : List α} {ys : List β}, Paired F xs ys → ∀ i : Nat, (xs[i]? = none ∧ ys[i]? = none) ∨ ∃ x y, xs[i]? = some x ∧ ys[i]? = some y ∧ F x y
  | _, _, .nil, i => .inl ⟨rfl, rfl⟩
  | _, _, .cons h t, 0 => .inr ⟨_, _, rfl, rfl, h⟩
  | _, _, .cons h t, i + 1 => paired_get t i
theorem pk_paired {α β : Type} {F : α → β → Prop} {xs : List α} {ys : List β} (h : Paired F xs ys) : ∀ is : List Nat, Paired F (pk is xs) (pk is ys)
  | [] => .nil
  | i :: is => by
    unfold pk
    rcases paired_get h i with ⟨e1, e2⟩ | ⟨x, y, e1, e2, e3⟩
    · rw [List.filterMap_cons_none e1, List.filterMap_cons_none e2]
      exact pk_paired h is
    · rw [List.filterMap_cons_some e1, List.filterMap_cons_some e2]
      exact .cons e3 (pk_paired h is)
theorem pk_len {α : Type} {xs : List α} : ∀ {is : List Nat}, is.all (fun i => Nat.blt i xs.length) = true → (pk is xs).length = is.length
  | [], _ => rfl
  | i :: is, h => by
    rw [List.all_cons, Bool.and_eq_true] at h
    have hi : i < xs.length := Nat.le_of_ble_eq_true h.1
    unfold pk
    rw [List.filterMap_cons_some (List.getElem?_eq_getElem hi)]
    show (pk is xs).length + 1 = _
    rw [pk_len h.2]; rfl
theorem pk_mem {α : Type} {xs : List α} {is : List Nat} {i : Nat} {x : α} (h : i ∈ is) (e : xs[i]? = some x) : x ∈ pk is xs := List.mem_filterMap.mpr ⟨i, h, e⟩
section
variable {X : Cx} {E : Ev} {n m : Nat} {F : FT} {dvs : List V} {dts : List T} {Ex : XK}
/-- m values are written, the defaults behind them; is says which goes where -/
theorem call_pk {R : Rc} {σ zs : List (Option V)} {H : Hp} {vs : List V} {z z' : Z} {is : List Nat} {Q : VK} (hd : Paired (Dfl E) dvs dts) (hm : m = vs.length) (hn : is.length = n) (ha : is.all (fun i => Nat.blt i (m + dvs.length)) = true) (hi : (List.range m).all (fun i => is.contains i) = true)
    (er : ER E R σ (vs.reverse.map some ++ zs) H z)
    (q : (if Nat.ble m z.k.length = true then callK m F z.l z.k (pk is ((z.k.take m).reverse ++ dts.map .val)) else none) = some z') (c : ∀ v H', ER E R σ (some v :: zs) H' z' → Q v H') : spF E n F (pk is (vs ++ dvs)) H Q Ex := by
  obtain ⟨l, k⟩ := z
  obtain ⟨q1, q2⟩ := ite_n q
  have hle := Nat.le_of_ble_eq_true q1
  dsimp only at hle q2
  have hk : k = k.take m ++ k.drop m := (List.take_append_drop m k).symm
  have hkl : (k.take m).length = vs.length := by rw [List.length_take, ← hm]; omega
  rw [hk] at er
  have q2' := q2
  unfold callK at q2'
  obtain ⟨⟨ss, l'⟩, r1, _⟩ := Option.bind_eq_some_iff.mp q2'
  have hal := (lend_arg r1).2
  have hp := er.argIs hkl fun s hs => by
    have h1 : s ∈ (k.take m).reverse := List.mem_reverse.mpr hs
    obtain ⟨i, e1⟩ := List.mem_iff_getElem?.mp h1
    have e2 := (List.getElem?_eq_some_iff.mp e1).1
    rw [List.length_reverse, hkl, ← hm] at e2
    have e3 := List.all_eq_true.mp hi i (List.mem_range.mpr e2)
    have e4 : i ∈ is := by simpa using e3
    refine hal s (pk_mem e4 (?_ : ((k.take m).reverse ++ dts.map .val)[i]? = some s))
    rw [List.getElem?_append_left (by rw [List.length_reverse, hkl, ← hm]; exact e2)]
    exact e1
  refine call_er (ks := pk is ((k.take m).reverse ++ dts.map .val)) (za := vs.reverse.map some) (zr := zs) er (by simp [hkl]) (pk_paired (paired_append hp (dfl_args hd)) is) ?_ (by rw [hkl, ← hm, ← hk]; exact q2) c
  rw [pk_len (by rw [List.length_append, ← hm]; exact ha), hn]
end
/-- keywords' values -/
structure KD (X : Cx) (E : Ev) (kws : List Keyword) (f : EF) : Prop where
  pk : PK X kws (tA E f kws.length)
section
variable {X : Cx} {E : Ev} {e o : Expr} {es : List Expr} {kws : List Keyword} {f g h : EF} {dvs : List V} {dts : List T} {Ex : XK}
theorem kd_nil : KD X E [] f0 := ⟨⟨fun pos pins s σ H Q I ⟨R, zs, z, z', er, q, c⟩ => by
  cases q
  exact pk_nil.run pos pins s σ H Q I (c [] H rfl er)⟩⟩
theorem kd_cons {nm : Option Str} {kpos : Pos} (ha : ED X E e f) (hr : KD X E kws g) : KD X E (⟨nm, e, kpos⟩ :: kws) (f2 f g) :=
  ⟨⟨fun pos pins s σ H Q I ⟨R, zs, z, z', er, q, c⟩ => (pk_cons ha.pe hr.pk).run pos pins s σ H Q I (by
    obtain ⟨z1, q1, q2⟩ := Option.bind_eq_some_iff.mp q
    exact ⟨R, zs, z, z1, er, q1, fun x H1 e1 => ⟨R, _, z1, z', e1, q2, fun xs H2 hl e2 => c (x :: xs) H2 (by rw [List.length_cons, hl]; rfl) (by simpa using e2)⟩⟩)⟩⟩
/-- how a call with keywords binds: the written values, the keywords' values, the defaults -/
def KB (K : PySem.W.Frag) (fd : FuncData) (ps : List Str) (n : Nat) (ks : List Str) (is : List Nat) (dvs : List V) : Prop :=
  ∃ its : List Value, KBn K fd ps n ks (fun us ws => pk is (us ++ ws ++ its)) (fun vs zs => pk is (vs ++ zs ++ dvs))
section
variable {K : PySem.W.Frag} {x qual : Str} {params : Arguments} {body : List Stmt} {scope : Scope} {kws' : List (Str × V)} {fa : Addr} {fd : FuncData} {ps : List Str}
theorem kb_d (F : FunD K x qual params body scope dvs kws' fa fd) (n : Nat) (ks : List Str) (is : List Nat) (hd : dvs ≠ [])
    (h : ∀ (T : Addr) (kV doc pm : Value) (an : Option Addr) (cdv ct : Value) (us its ws : List Value), us.length = n → its.length = dvs.length → ws.length = ks.length →
      ∃ k, bindArgs (PySem.W.fnOf x qual params body scope (.ref T) kV doc pm an cdv ct) ⟨us, ks.zip ws⟩ = seqItems? (.ref T) >>= k ∧ k (some its.toArray) = pure (ps.zip (pk is (us ++ ws ++ its)))) : KB K fd ps n ks is dvs := by
  exact FunD.kbindsD F n ks (fun us its ws => pk is (us ++ ws ++ its)) hd (fun r1 r2 r3 => pk_paired (paired_app (paired_app r1 r3) r2) is) h
theorem kb_n (F : FunD K x qual params body scope [] kws' fa fd) (n : Nat) (ks : List Str) (is : List Nat)
    (h : ∀ (kV doc pm : Value) (an : Option Addr) (cdv ct : Value) (us ws : List Value), us.length = n → ws.length = ks.length →
      bindArgs (PySem.W.fnOf x qual params body scope .none kV doc pm an cdv ct) ⟨us, ks.zip ws⟩ = pure (ps.zip (pk is (us ++ ws ++ [])))) : KB K fd ps n ks is [] := by
  obtain ⟨oc, od, dV, kV, doc, pm, an, cdv, ct, osl, rfl, lk, hcd, hD, hK⟩ := F.ex
  rcases hD with ⟨_, rfl⟩ | ⟨e, _⟩
  · exact ⟨[], ⟨fun s us ws X l1 l2 => .of_eq (h kV doc pm an cdv ct us ws l1 l2), fun r1 r2 => pk_paired (paired_app (paired_app r1 r2) .nil) is⟩⟩
  · exact absurd rfl e
end
/-- f(e, .., k = v, ..) -/
def fCallN (n m : Nat) (F : FT) (ds : List T) (is : List Nat) (f g : EF) : EF := fun z => (f z).bind fun z0 => (g z0).bind fun z1 => if Nat.ble (n + m) z1.k.length = true then callK (n + m) F z1.l z1.k (pk is ((z1.k.take (n + m)).reverse ++ ds.map .val)) else none
theorem ed_callN {CX : CXT} {k n N : Nat} {F : FT} {fa : Addr} {fd : FuncData} {ps ks : List Str} {is : List Nat} {x : Str} {p pos : Pos} (Fo : FnOk X.prog X.w X.K X.mg X.base CX k fa fd ps (spF E N F)) (hr : Room k X.A) (hg : Gl X x) (hm : X.mg x = some (.ref fa)) (hk : PySem.W.keepIn X.K (.ref fa) = true) (hb : KB X.K fd ps n ks is dvs)
    (hx : Passes CX X Ex) (hd : Paired (Dfl E) dvs dts) (hn : n = (e :: es).length) (hks' : ks.length = kws.length) (hN : is.length = N) (hA : is.all (fun i => Nat.blt i (n + ks.length + dvs.length)) = true) (hI : (List.range (n + ks.length)).all (fun i => is.contains i) = true)
    (ha : AD X E (e :: es) f) (hkw : KD X E kws g) (hall : (backToKw pos (keywordEach kws X.env)).all (·.1.isSome) = true := by rfl) (hks : (backToKw pos (keywordEach kws X.env)).filterMap (·.1) = ks := by rfl)
    (hdb : (x == ("__debug__" : Str)) = false := by decide) (he : starEach (e :: es) X.env = (false, eval e X.env) :: starEach es X.env := by rfl)
    (hpl : ((backTo pos (starEach (e :: es) X.env)).any (·.1) || (backToKw pos (keywordEach kws X.env)).any (·.1.isNone)) = false := by rfl) :
    ED X E (.Call (.Name x p) (e :: es) kws pos) (fCallN n ks.length F dts is f g) := by
  obtain ⟨its, hb⟩ := hb
  refine ⟨pe_imp (pe_callN (E := Ex) Fo hr hg hm hk hb hx ha.pa hkw.pk hall hks hdb he hpl) fun σ H Q ⟨R, zs, z, z', er, q, c⟩ => ?_⟩
  obtain ⟨z0, q0, q1⟩ := Option.bind_eq_some_iff.mp q
  obtain ⟨z1, q1, q2⟩ := Option.bind_eq_some_iff.mp q1
  refine ⟨R, zs, z, z0, er, q0, fun vs H1 hl e1 => ⟨R, _, z0, z1, e1, q1, fun ws H2 hl2 e2 => ⟨by rw [hl, hn], by rw [hl2, hks'], ?_⟩⟩⟩
  refine call_pk (vs := vs ++ ws) (zs := zs) hd (m := n + ks.length) (by rw [List.length_append, hl, hl2, hn, hks']) hN hA hI (by simpa using e2) q2 c
/-- C(e, .., k = v, ..) -/
def fMakeN (c : Str) (n m : Nat) (F : FT) (ds : List T) (is : List Nat) (f g : EF) : EF := fun z => (f z).bind fun z0 => (g z0).bind fun z1 => if Nat.ble (n + m) z1.k.length = true then (callK (n + m) F (z1.l ++ [.own (.obj c [] [])]) z1.k (pk is (.ali z1.l.length :: ((z1.k.take (n + m)).reverse ++ ds.map .val)))).bind (mkEnd z1.l.length) else none
/-- o.m(k = v, ..) -/
def tMethN (C : Addr) (m : Str) (nk : Nat) (sp : Sp) (gV : List V → List V → List V) (E : XK) (ta : TE) (tk : TA) : TE := fun σ H Q => ta σ H fun x H1 => ∃ a dx fs, x = .ref a ∧ H1 a = some (.ins C dx fs) ∧ fs.lookup m = none ∧ tk σ H1 fun zs H2 => zs.length = nk ∧ sp (gV [.ref a] zs) H2 Q E
theorem pe_methN0 {CX : CXT} {k : Nat} {C fa : Addr} {fd : FuncData} {ps ks : List Str} {sp : Sp} {m : Str} {apos pos : Pos} {ta : TE} {tk : TA} {gg : List Value → List Value → List Value} {gV : List V → List V → List V} {pl : Sem Bool} (he : PE X o ta) (c : Cls X.K C) (hm : Meth X.K C m fa) (F : FnOk X.prog X.w X.K X.mg X.base CX k fa fd ps sp) (hr : Room k X.A) (hb : KBn X.K fd ps 1 ks gg gV) (hx : Passes CX X Ex) (hkw : PK X kws tk)
    (hall : (backToKw pos (keywordEach kws X.env)).all (·.1.isSome) = true := by rfl) (hks : (backToKw pos (keywordEach kws X.env)).filterMap (·.1) = ks := by rfl)
    (hpl : ((backTo pos (starEach [] X.env)).any (·.1) || (backToKw pos (keywordEach kws X.env)).any (·.1.isNone)) = false := by rfl)
    (ht : eval (.Call (.Attribute o m apos) [] kws pos) X.env = (do
      let ov ← eval o X.env
      standAt apos.atName
      let (f, first) ← holding [ov] (getMethod ov m pl)
      callWith pos f first (backTo pos (starEach [] X.env)) (backToKw pos (keywordEach kws X.env))) := by rfl) :
    PE X (.Call (.Attribute o m apos) [] kws pos) (tMethN C m ks.length sp gV Ex ta tk) := by
  refine ⟨fun pins s σ H Q I h => ?_⟩
  refine PySem.W.methodCall_KW (pl := pl) (thn (he.run pins s σ H _ I h) fun u s1 ⟨x, H1, I1, rx, a, dx, fs, ex, ea, l, q⟩ => ?_) ht
  subst ex
  obtain rfl : u = Value.ref a := rx
  refine getmeth_ok I1 ea c hm l ?_
  refine PySem.W.callWith_KW0 (first := [.ref a]) (h₀ := X.base) I.ok.mod.kin hm.kp hall ?_ hpl
  refine thn (hkw.run pos pins s1 σ H1 _ I1 q) fun ws s2 ⟨zs, H2, I2, rz, l2, q2⟩ => ⟨I2.kIn, ?_⟩
  rw [hks]
  exact run_fnN (us := [.ref a]) (vs := [.ref a]) F hr hb hx I2 (.cons rfl .nil) rz rfl l2 q2
def fMethN0 (c mn : Str) (m : Nat) (F : FT) (ds : List T) (is : List Nat) (f g : EF) : EF := fun z => (f z).bind fun z0 => if isO c mn z0 = true then (g z0).bind fun z1 => if Nat.ble (1 + m) z1.k.length = true then callK (1 + m) F z1.l z1.k (pk is ((z1.k.take (1 + m)).reverse ++ ds.map .val)) else none else none
theorem ed_methN0 {CX : CXT} {k N : Nat} {F : FT} {C fa : Addr} {fd : FuncData} {ps ks : List Str} {is : List Nat} {cn mn : Str} {apos pos : Pos} {pl : Sem Bool} (hC : E.cl cn = C) (ho : ED X E o f) (cl : Cls X.K C) (hm : Meth X.K C mn fa) (Fo : FnOk X.prog X.w X.K X.mg X.base CX k fa fd ps (spF E N F)) (hr : Room k X.A) (hb : KB X.K fd ps 1 ks is dvs)
    (hx : Passes CX X Ex) (hd : Paired (Dfl E) dvs dts) (hks' : ks.length = kws.length) (hN : is.length = N) (hA : is.all (fun i => Nat.blt i (1 + ks.length + dvs.length)) = true) (hI : (List.range (1 + ks.length)).all (fun i => is.contains i) = true) (hkw : KD X E kws g)
    (hall : (backToKw pos (keywordEach kws X.env)).all (·.1.isSome) = true := by rfl) (hks : (backToKw pos (keywordEach kws X.env)).filterMap (·.1) = ks := by rfl)
    (hpl : ((backTo pos (starEach [] X.env)).any (·.1) || (backToKw pos (keywordEach kws X.env)).any (·.1.isNone)) = false := by rfl)
    (ht : eval (.Call (.Attribute o mn apos) [] kws pos) X.env = (do
      let ov ← eval o X.env
      standAt apos.atName
      let (f, first) ← holding [ov] (getMethod ov mn pl)
      callWith pos f first (backTo pos (starEach [] X.env)) (backToKw pos (keywordEach kws X.env))) := by rfl) :
    ED X E (.Call (.Attribute o mn apos) [] kws pos) (fMethN0 cn mn ks.length F dts is f g) := by
  obtain ⟨its, hb⟩ := hb
  refine ⟨pe_imp (pe_methN0 (Ex := Ex) ho.pe cl hm Fo hr hb hx hkw.pk hall hks hpl ht) fun σ H Q ⟨R, zs, z, z', er, q, c⟩ => ?_⟩
  obtain ⟨z0, q0, q1⟩ := Option.bind_eq_some_iff.mp q
  obtain ⟨q3, q1⟩ := ite_n q1
  obtain ⟨z1, q1, q2⟩ := Option.bind_eq_some_iff.mp q1
  refine ⟨R, zs, z, z0, er, q0, fun x H1 e1 => ?_⟩
  obtain ⟨a, dx, fs, rfl, h1, h2⟩ := e1.isO q3
  refine ⟨a, dx, fs, rfl, by rw [← hC]; exact h1, h2, R, _, z0, z1, e1, q1, fun ws H2 hl2 e2 => ⟨by rw [hl2, hks'], ?_⟩⟩
  exact call_pk (vs := [.ref a] ++ ws) (zs := zs) hd (m := 1 + ks.length) (by rw [List.length_append, hl2, hks']; rfl) hN hA hI (by simpa using e2) q2 c
end
end Fn
set_option Elab.async false
set_option linter.all false
set_option maxRecDepth 100000
set_option maxHeartbeats 4000000
/-! own layer, data: l.index(b) in a list of bools -/
namespace Fn
open PySem PySem.Spec PyProof.Rows L2 Rw
def blsT : List T → Option (List Bool)
  | [] => some []
  | .bl i :: ts => (blsT ts).map (i :: ·)
  | _ => none
theorem blsT_eq : ∀ {ts : List T} {ns : List Bool}, blsT ts = some ns → ts = ns.map .bl
  | [], ns, h => by cases h; rfl
  | t :: ts, ns, h => by
    cases t with
    | bl b =>
      obtain ⟨ns1, h1, rfl⟩ := Option.map_eq_some_iff.mp h
      rw [blsT_eq h1]; rfl
    | _ => cases h
def ix1 (b : Bool) : List Bool → Option Nat
  | [] => none
  | x :: xs => if (x == b) = true then some 0 else (ix1 b xs).map (· + 1)
theorem ix1_some {b : Bool} : ∀ {bs : List Bool} {j : Nat}, ix1 b bs = some j → bs[j]? = some b ∧ ∀ (m : Nat) (x : Bool), m < j → bs[m]? = some x → (x == b) = false
  | [], _, h => by cases h
  | x :: xs, j, h => by
    unfold ix1 at h
    split at h
    · rename_i e
      cases h
      exact ⟨by rw [eq_of_beq e]; rfl, fun m x hm _ => absurd hm (Nat.not_lt_zero m)⟩
    · rename_i e
      obtain ⟨i, h1, rfl⟩ := Option.map_eq_some_iff.mp h
      obtain ⟨h2, h3⟩ := ix1_some h1
      refine ⟨h2, fun m y hm hy => ?_⟩
      cases m with
      | zero => cases hy; simpa using e
      | succ m => exact h3 m y (by omega) hy
def fIndex (f g : EF) : EF := fun z => (f z).bind fun z1 => if isL z1 = true then (g z1).bind fun z2 => match pp z2 with
  | some (.bl b, z3) => match pp z3 with
    | some (.lst ts, z4) => (blsT ts).bind fun bs => (ix1 b bs).bind fun j => some ⟨z4.l, .val (.int j) :: z4.k⟩
    | _ => none
  | _ => none else none
theorem ed_index {X : Cx} {E : Ev} [EX X E] {e o a : Expr} {f g : EF} (hq : ∀ {to : TE} {t : TA}, PE X o to → PA X [a] t → PE X e (tBM X.K "list" (rIndex X.K) to t)) (ho : ED X E o f) (ha : AD X E [a] g) : ED X E e (fIndex f g) := ⟨pe_imp (hq ho.pe ha.pa) fun σ H Q ⟨R, zs, z, z', er, q, c⟩ => by
  obtain ⟨z1, q1, q2⟩ := Option.bind_eq_some_iff.mp q
  obtain ⟨q3, q4⟩ := ite_n q2
  obtain ⟨z2, q5, q6⟩ := Option.bind_eq_some_iff.mp q4
  refine ⟨R, zs, z, z1, er, q1, fun x H1 e1 => ⟨isL_ty e1 q3, R, _, z1, z2, e1, q5, fun vs H2 hl e2 => ?_⟩⟩
  obtain ⟨v, rfl⟩ : ∃ v, vs = [v] := by
    match vs, hl with
    | [v], _ => exact ⟨v, rfl⟩
  split at q6
  case h_2 => cases q6
  rename_i b z3 p1
  split at q6
  case h_2 => cases q6
  rename_i ts z4 p2
  obtain ⟨bs, q7, q8⟩ := Option.bind_eq_some_iff.mp q6
  obtain ⟨j, q9, q10⟩ := Option.bind_eq_some_iff.mp q8
  cases q10
  obtain ⟨_, ev, e3, r3⟩ := e2.pp p1
  cases ev
  obtain ⟨_, ev, e4, r4⟩ := e3.pp p2
  cases ev
  obtain ⟨a, xs, rfl, r5, r6⟩ := r4.lst
  rw [blsT_eq q7] at r6
  obtain ⟨h1, h2⟩ := ix1_some q9
  refine ⟨a, bs.map V.bl, .bl b, j, .bl b, rfl, by rw [r3.bl], .inl (by rw [← r6.bls]; exact r5), rfl, ?_, by rw [List.getElem?_map, h1]; rfl, by show (b == b) = true; simp, fun m z' hm hz => ?_, ?_⟩
  · rw [List.all_map]; exact List.all_eq_true.mpr fun _ _ => rfl
  · rw [List.getElem?_map] at hz
    obtain ⟨y, hy, rfl⟩ := Option.map_eq_some_iff.mp hz
    exact h2 m y hm hy
  · exact c _ _ (ER.pval (l := z4.l) (k := z4.k) e4 (.int _))⟩
end Fn
set_option Elab.async false
set_option linter.all false
set_option maxRecDepth 100000
set_option maxHeartbeats 4000000
/-! own layer, data: a module's constant that is a tuple of anything -/
namespace Fn
open PySem PySem.Spec PyProof.Rows L2 Rw
mutual
def trB (K : PySem.W.Frag) : T → Value → Bool
  | .non, .none => true
  | .bl b, .bool c => b == c
  | .int i, .int j _ => decide (i = j)
  | .str x, .str y _ => decide (x = y)
  | .tup ts, .ref a => match K.lookup a with
    | some ⟨.type c, _, .seq its _, _⟩ => decide (c = "tuple") && (Nat.ble its.size 1000 && trBs K ts its.toList)
    | _ => false
  | _, _ => false
def trBs (K : PySem.W.Frag) : List T → List Value → Bool
  | [], [] => true
  | t :: ts, u :: us => trB K t u && trBs K ts us
  | _, _ => false
end
mutual
theorem trB_ok {K : PySem.W.Frag} : ∀ (t : T) (u : Value), trB K t u = true → ∃ x : V, RelV x u ∧ ∀ (E : Ev) M H, E.K = K → Rep E M H x t
  | .non, u, h => by
    cases u with
    | none => exact ⟨.non, rfl, fun _ _ _ _ => .non⟩
    | _ => simp [trB] at h
  | .bl b, u, h => by
    cases u with
    | bool c =>
      have e : b = c := by simpa [trB] using h
      subst e
      exact ⟨.bl b, rfl, fun _ _ _ _ => .bl _⟩
    | _ => simp [trB] at h
  | .int i, u, h => by
    cases u with
    | int j k =>
      have e : i = j := by simpa [trB] using h
      subst e
      exact ⟨.int i, ⟨_, rfl⟩, fun _ _ _ _ => .int _⟩
    | _ => simp [trB] at h
  | .str i, u, h => by
    cases u with
    | str j k =>
      have e : i = j := by simpa [trB] using h
      subst e
      exact ⟨.str i, ⟨_, rfl⟩, fun _ _ _ _ => .str _⟩
    | _ => simp [trB] at h
  | .tup ts, u, h => by
    cases u with
    | ref a =>
      unfold trB at h
      split at h
      · rename_i c dd its n sl e
        rw [Bool.and_eq_true, Bool.and_eq_true] at h
        obtain ⟨h1, h2, h3⟩ := h
        have h1 := of_decide_eq_true h1
        obtain ⟨xs, h4, h5⟩ := trBs_ok ts _ h3
        exact ⟨.ref a, rfl, fun E M H hE => .ktup (xs := xs) ⟨_, its, n, by rw [hE]; exact e, by rw [h1], rfl, Nat.le_trans (Nat.le_of_ble_eq_true h2) (by decide), h4⟩ (h5 E M H hE)⟩
      · cases h
    | _ => simp [trB] at h
  | .lst ts, u, h => by cases u <;> simp [trB] at h
  | .scr ts, u, h => by cases u <;> simp [trB] at h
  | .obj c ns ts, u, h => by cases u <;> simp [trB] at h
  | .dic ks vs, u, h => by cases u <;> simp [trB] at h
  | .rng lo hi, u, h => by cases u <;> simp [trB] at h
  | .fnc, u, h => by cases u <;> simp [trB] at h
theorem trBs_ok {K : PySem.W.Frag} : ∀ (ts : List T) (us : List Value), trBs K ts us = true → ∃ xs : List V, Vals xs us ∧ ∀ (E : Ev) M H, E.K = K → RepAll E M H xs ts
  | [], us, h => by
    cases us with
    | nil => exact ⟨[], .nil, fun _ _ _ _ => .nil⟩
    | cons u us => simp [trBs] at h
  | t :: ts, us, h => by
    cases us with
    | nil => simp [trBs] at h
    | cons u us =>
      unfold trBs at h
      rw [Bool.and_eq_true] at h
      obtain ⟨x, h1, h2⟩ := trB_ok t u h.1
      obtain ⟨xs, h3, h4⟩ := trBs_ok ts us h.2
      exact ⟨x :: xs, .cons h1 h3, fun E M H hE => .cons (h2 E M H hE) (h4 E M H hE)⟩
end
theorem trB_ref {K : PySem.W.Frag} {a : Addr} {t : T} (h : trB K t (.ref a) = true) {E : Ev} (hE : E.K = K) (M : Addr → Prop) (H : Hp) : Rep E M H (.ref a) t := by
  obtain ⟨x, h1, h2⟩ := trB_ok t _ h
  cases x with
  | ref b => cases h1; exact h2 E M H hE
  | non => cases h1
  | bl b => cases h1
  | int b => obtain ⟨_, e⟩ := h1; cases e
  | str b => obtain ⟨_, e⟩ := h1; cases e
  | _ => first | (cases h1; done) | (obtain ⟨_, e⟩ := h1; cases e; done) | exact absurd h1 (by simp [L2.RelV])
end Fn
set_option Elab.async false
set_option linter.all false
set_option maxRecDepth 100000
set_option maxHeartbeats 4000000
/-! own layer: walks of readings by an invariant; the script; the law's promise -/
namespace Fn
open PySem PySem.Spec PyProof.Rows L2 Rw LamX
theorem sSeq_nx {s t : SF} {z z1 : Z} (h : s z = some (.nx z1)) : sSeq s t z = t z1 := by
  unfold sSeq
  rw [h]; rfl
theorem sSeq_rt {s t : SF} {z z1 : Z} (h : s z = some (.rt z1)) : sSeq s t z = some (.rt z1) := by
  unfold sSeq
  rw [h]; rfl
theorem sFor_eq {fi : IF} {m : Nat} {g : GF} {s : SF} {z z1 : Z} {src : Sc} {ts : List T} (h : fi z = some (z1, src)) (h2 : src z1 = some ts) : sFor fi m g s z = frL src m ts.length g s ts.length z1 := by
  unfold sFor
  rw [h]
  show (src z1).bind _ = _
  rw [h2]; rfl
theorem frL_inv {src : Sc} {m : Nat} {ts : List T} {g : GF} {s : SF} (P : Nat → Z → Prop) (hs : ∀ i z, P i z → src z = some ts)
    (hw : ∀ i z t, ts[i]? = some t → P i z → ∃ z1 z2, g ⟨z.l, .val t :: z.k⟩ = some z1 ∧ s z1 = some (.nx z2) ∧ P (i + 1) z2) :
    ∀ (r i : Nat) (z : Z), i + r = ts.length → P i z → ∃ z', frL src m ts.length g s r z = some (.nx (drN m z')) ∧ P ts.length z'
  | 0, i, z, e, p => by
    refine ⟨z, ?_, by rw [← e]; exact p⟩
    show ((src z).bind fun us => if (us.length == ts.length) = true then some (Fl.nx (drN m z)) else none) = _
    rw [hs i z p]
    show (if (ts.length == ts.length) = true then _ else none) = _
    rw [if_pos (beq_self_eq_true _)]
  | r + 1, i, z, e, p => by
    have hi : i < ts.length := by omega
    obtain ⟨z1, z2, h1, h2, h3⟩ := hw i z ts[i] (List.getElem?_eq_getElem hi) p
    obtain ⟨z', h4, h5⟩ := frL_inv P hs hw r (i + 1) z2 (by omega) h3
    refine ⟨z', ?_, h5⟩
    show ((src z).bind fun us => if (us.length == ts.length) = true then (us[ts.length - (r + 1)]?).bind fun x => (g ⟨z.l, .val x :: z.k⟩).bind fun z1 => (s z1).bind fun fl => match fl with
      | .nx z2 => frL src m ts.length g s r z2
      | .ct z2 => frL src m ts.length g s r z2
      | .bk z2 => some (.nx (drN m z2))
      | .rt z2 => some (.rt (drU m z2))
      else none) = _
    rw [hs i z p]
    show (if (ts.length == ts.length) = true then _ else none) = _
    have hj : ts.length - (r + 1) = i := by omega
    rw [if_pos (beq_self_eq_true _), hj, List.getElem?_eq_getElem hi, Option.bind_some, h1, Option.bind_some, h2]
    exact h4
theorem sFor_inv {fi : IF} {m : Nat} {g : GF} {s : SF} {z z1 : Z} {src : Sc} {ts : List T} (P : Nat → Z → Prop) (h : fi z = some (z1, src)) (hs : ∀ i z, P i z → src z = some ts) (p : P 0 z1)
    (hw : ∀ i z t, ts[i]? = some t → P i z → ∃ z1 z2, g ⟨z.l, .val t :: z.k⟩ = some z1 ∧ s z1 = some (.nx z2) ∧ P (i + 1) z2) :
    ∃ z', sFor fi m g s z = some (.nx (drN m z')) ∧ P ts.length z' := by
  rw [sFor_eq h (hs 0 z1 p)]
  exact frL_inv P hs hw ts.length 0 z1 (Nat.zero_add _) p
theorem runF_rt {n m : Nat} {s : SF} {args : List Sl} {z : Z} {x : List Sl × Sl} (h : s ⟨args ++ List.replicate m .no, []⟩ = some (.rt z)) (hn : Nat.ble n z.l.length = true) (hr : rv z = some x) : runF n m s args = some (outs n x.1, x.2) := by
  unfold runF
  rw [h]
  show (if Nat.ble n z.l.length = true then (rv z).map _ else none) = _
  rw [if_pos hn, hr]
  rfl
theorem rangeT_at {j : Int} {i : Nat} {t : T} (h : (rangeT 0 j)[i]? = some t) : t = .int i := by
  unfold rangeT at h
  rw [List.getElem?_map] at h
  obtain ⟨k, h1, h2⟩ := Option.map_eq_some_iff.mp h
  rw [List.getElem?_range (by have := (List.getElem?_eq_some_iff.mp h1).1; rw [List.length_range] at this; exact this)] at h1
  cases h1
  rw [← h2, Int.zero_add]
theorem pop_ok (us : List T) (r : Int) (h0 : 0 ≤ r) (h1 : r < us.length) (hl : us.length < 1000) : ∃ t, us[r.toNat]? = some t ∧ t ∈ us ∧ lPop1 us [.int r] = some (us.eraseIdx r.toNat, t) := by
  have hr : r.toNat < us.length := by omega
  refine ⟨us[r.toNat], List.getElem?_eq_getElem hr, List.getElem_mem hr, ?_⟩
  have p62 : (2 : Int) ^ 62 = 4611686018427387904 := by decide
  have e1 : inRng r = true := by
    unfold inRng
    rw [p62, Bool.and_eq_true]
    exact ⟨decide_eq_true (by omega), decide_eq_true (by omega)⟩
  have n0 : ¬ r < 0 := by omega
  have e2 : seqIndex? r us.length = some r.toNat := by simp [seqIndex?, n0, h0, h1]
  show (if inRng r = true then (seqIndex? r us.length).bind fun j => (us[j]?).map fun t => (us.eraseIdx j, t) else none) = _
  rw [if_pos e1, e2]
  simp [hr]
theorem eqD_bl (p q : Bool) : oEqD true (.bl p) (.bl q) = some (.val (.bl (p != q))) := by cases p <;> cases q <;> rfl
theorem shaped_int (i : Int) : SeqAt.shaped (.int i) = true := by simp [SeqAt.shaped, PyData.canLay0, PyData.depth]
theorem eqD_int (i : Int) : oEqD true (.int i) (.int i) = some (.val (.bl false)) := by
  have e : oEqD true (.int i) (.int i) = (if (SeqAt.shaped (.int i) && SeqAt.shaped (.int i)) = true then some (.val (.bl (!PyData.eqv (.int i) (.int i)))) else none) := rfl
  rw [e, shaped_int]
  simp [PyData.eqv]
/-- the script, as either shape -/
def scrT : Bool → List Int → T
  | true, ns => .scr (ns.map T.int)
  | false, ns => .lst (ns.map T.int)
theorem at_ints (ns : List Int) (k : Int) (h0 : 0 ≤ k) (h1 : k < ns.length) : ∃ i, atI (ns.map T.int) k = some (.int i) := by
  have hr : k.toNat < ns.length := by omega
  refine ⟨ns[k.toNat], ?_⟩
  have n0 : ¬ k < 0 := by omega
  simp [atI, ixN, n0, h0, h1, hr]
theorem rep_ints {E : Ev} {M : Addr → Prop} {H : Hp} (ns : List Int) : RepAll E M H (ns.map V.int) (ns.map T.int) := RepAll.map fun i _ => .int i
theorem rep_script {E : Ev} {H : Hp} {a : Addr} {ns : List Int} (h : SqL E.K H a (ns.map V.int)) : ∃ b, Rep E (fun _ => False) H (.ref a) (scrT b ns) := by
  rcases h with (h | ⟨o, h⟩) | h
  · exact ⟨false, .lst id h (rep_ints ns)⟩
  · exact ⟨true, .scr id h (rep_ints ns)⟩
  · obtain ⟨o, its, n, h1, h2, h3, h4, h5, h6⟩ := h
    exact ⟨true, .kscr ⟨o, its, n, h1, h2, h3, h4, h5, h6⟩ (rep_ints ns)⟩
theorem sp_gen {E : Ev} {F : FT} {H : Hp} {a : Addr} {t : T} {Ex : XK} (hr : Rep E (fun _ => False) H (.ref a) t) (hF : F [.val t] = some ([.no], .val (.bl true))) (tb : Tabs E.tb H) : spF E 1 F [.ref a] H (fun v _ => v = .bl true) Ex := by
  refine ⟨fun _ => False, fun _ => False, [.val t], [.no], .val (.bl true), rfl, rfl, rfl, ?_, hF, rfl, fun v H' p => ?_⟩
  · have mx : ∀ x, Mx ⟨fun _ => False, fun _ => False, H, []⟩ [(some (.ref a), Sl.val t)] x → False := fun x z => by
      rcases z with z | ⟨y, hy, ⟨u, e⟩, _⟩
      · exact z
      · rw [List.mem_singleton.mp hy] at e; cases e
    refine ⟨fun x hx u e => ?_, fun x hx u e => ?_, fun x hx u y e => ?_, fun x hx t y e => ?_, List.pairwise_singleton .., .rf, fun x z => z.elim, fun x z => z.elim, tb⟩
    · have hx := List.mem_singleton.mp hx
      subst hx
      cases e
      exact ⟨_, rfl, hr.an mx⟩
    · rw [List.mem_singleton.mp hx] at e; cases e
    · rw [List.mem_singleton.mp hx] at e; cases e
    · rw [List.mem_singleton.mp hx] at e; cases e
  · obtain ⟨w, h1, h2⟩ := p.good.val (some v, .val (.bl true)) List.mem_cons_self _ rfl
    cases h1
    cases h2
    rfl
theorem sp_lawG {E : Ev} {F : FT} {H : Hp} {a : Addr} {ns : List Int} {Ex : XK} (hF : ∀ b, F [.val (scrT b ns)] = some ([.no], .val (.bl true))) (h : SqL E.K H a (ns.map V.int)) (tb : Tabs E.tb H) : spF E 1 F [.ref a] H (fun v _ => v = .bl true) Ex :=
  let ⟨b, hr⟩ := rep_script h
  sp_gen hr (hF b) tb
theorem tabs_nil {H : Hp} : ∀ {tb : List (Addr × Str)}, (∀ p ∈ tb, H p.1 = some (.tbl #[])) → Tabs tb H := fun h p hp => .nil (h p hp)
end Fn
set_option Elab.async false
set_option linter.all false
set_option maxRecDepth 100000
set_option maxHeartbeats 4000000
/-! own layer: walks turn by turn -/
namespace Fn
open PySem PySem.Spec PyProof.Rows L2 Rw LamX
section
variable {src : Sc} {m n : Nat} {g : GF} {s : SF} {r : Nat} {z z1 z2 z3 : Z} {ts : List T} {x : T}
theorem frL_fl (fl : Option Fl) (h1 : src z = some ts) (h2 : (ts.length == n) = true) (h3 : ts[n - (r + 1)]? = some x) (h4 : g ⟨z.l, .val x :: z.k⟩ = some z1) (h5 : s z1 = fl) : frL src m n g s (r + 1) z = fl.bind fun fl => match fl with
      | .nx z2 => frL src m n g s r z2
      | .ct z2 => frL src m n g s r z2
      | .bk z2 => some (.nx (drN m z2))
      | .rt z2 => some (.rt (drU m z2)) := by
  subst h5
  show ((src z).bind fun us => if (us.length == n) = true then (us[n - (r + 1)]?).bind fun x => (g ⟨z.l, .val x :: z.k⟩).bind fun z1 => (s z1).bind fun fl => match fl with
      | .nx z2 => frL src m n g s r z2
      | .ct z2 => frL src m n g s r z2
      | .bk z2 => some (.nx (drN m z2))
      | .rt z2 => some (.rt (drU m z2))
      else none) = _
  rw [h1]
  show (if (ts.length == n) = true then _ else none) = _
  rw [if_pos h2, h3, Option.bind_some, h4, Option.bind_some]
theorem frL_nx (h1 : src z = some ts) (h2 : (ts.length == n) = true) (h3 : ts[n - (r + 1)]? = some x) (h4 : g ⟨z.l, .val x :: z.k⟩ = some z1) (h5 : s z1 = some (.nx z2)) : frL src m n g s (r + 1) z = frL src m n g s r z2 := frL_fl _ h1 h2 h3 h4 h5
theorem frL_rt (h1 : src z = some ts) (h2 : (ts.length == n) = true) (h3 : ts[n - (r + 1)]? = some x) (h4 : g ⟨z.l, .val x :: z.k⟩ = some z1) (h5 : s z1 = some (.rt z2)) (h6 : drU m z2 = z3) : frL src m n g s (r + 1) z = some (.rt z3) := h6 ▸ frL_fl _ h1 h2 h3 h4 h5
theorem frL_end (h1 : src z = some ts) (h2 : (ts.length == n) = true) (h3 : drN m z = z1) : frL src m n g s 0 z = some (.nx z1) := by
  subst h3
  show ((src z).bind fun us => if (us.length == n) = true then some (Fl.nx (drN m z)) else none) = _
  rw [h1]
  show (if (ts.length == n) = true then _ else none) = _
  rw [if_pos h2]
theorem sFor_st {fi : IF} (h : fi z = some (z1, src)) (h2 : src z1 = some ts) (h3 : ts.length = n) : sFor fi m g s z = frL src m n g s n z1 := by
  subst h3
  unfold sFor
  rw [h]
  show (src z1).bind _ = _
  rw [h2]; rfl
end
section
variable {p : TF} {s : SF} {n : Nat} {z z1 z2 : Z}
theorem sWh_fl (fl : Option Fl) (h1 : p z = some (true, z1)) (h2 : s z1 = fl) : sWh p s (n + 1) z = fl.bind fun fl => match fl with
      | .nx z1 => sWh p s n z1
      | .ct z1 => sWh p s n z1
      | .bk z1 => some (.nx z1)
      | .rt z1 => some (.rt z1) := by
  subst h2
  show ((p z).bind fun x => if x.1 = true then (s x.2).bind fun fl => match fl with
      | .nx z1 => sWh p s n z1
      | .ct z1 => sWh p s n z1
      | .bk z1 => some (Fl.nx z1)
      | .rt z1 => some (Fl.rt z1)
    else some (Fl.nx x.2)) = _
  rw [h1]
  rfl
theorem sWh_nx (h1 : p z = some (true, z1)) (h2 : s z1 = some (.nx z2)) : sWh p s (n + 1) z = sWh p s n z2 := sWh_fl _ h1 h2
theorem sWh_rt (h1 : p z = some (true, z1)) (h2 : s z1 = some (.rt z2)) : sWh p s (n + 1) z = some (.rt z2) := sWh_fl _ h1 h2
theorem sWh_end (h1 : p z = some (false, z1)) : sWh p s (n + 1) z = some (.nx z1) := by
  show ((p z).bind fun x => if x.1 = true then (s x.2).bind fun fl => match fl with
      | .nx z1 => sWh p s n z1
      | .ct z1 => sWh p s n z1
      | .bk z1 => some (Fl.nx z1)
      | .rt z1 => some (Fl.rt z1)
    else some (Fl.nx x.2)) = _
  rw [h1]
  rfl
end
end Fn
set_option Elab.async false
set_option linter.all false
set_option maxRecDepth 100000
set_option maxHeartbeats 4000000
/-! own layer: pieces of readings by what they give; nothing is evaluated -/
namespace Fn
open PySem PySem.Spec PyProof.Rows L2 Rw LamX
section
variable {F : FT} {l l' : List Sl} {z z1 z2 z3 : Z} {a b c d r t : T} {f g f0 : EF} {o : O2} {p q : TF} {s u : SF}
theorem callK_1 {k : List Sl} (h : F [.val a] = some ([.no], .val r)) : callK 1 F l (.val a :: k) [.val a] = some ⟨l, .val r :: k⟩ := by
  simp [callK, lend, toArg, h, okOut, isRes, back]
theorem callK_2 {k : List Sl} (h : F [.val a, .val b] = some ([.no, .no], .val r)) : callK 2 F l (.val b :: .val a :: k) [.val a, .val b] = some ⟨l, .val r :: k⟩ := by
  simp [callK, lend, toArg, h, okOut, isRes, back]
theorem callK_f {k : List Sl} (h : F [.val a, .val .fnc] = some ([.no, .no], .val r)) : callK 1 F l (.val a :: k) [.val a, .val .fnc] = some ⟨l, .val r :: k⟩ := by
  simp [callK, lend, toArg, h, okOut, isRes, back]
theorem callK_3 {k : List Sl} (h : F [.val a, .val b, .val c] = some ([.no, .no, .no], .val r)) : callK 3 F l (.val c :: .val b :: .val a :: k) [.val a, .val b, .val c] = some ⟨l, .val r :: k⟩ := by
  simp [callK, lend, toArg, h, okOut, isRes, back]
theorem callK_4 {k : List Sl} (h : F [.val a, .val b, .val c, .val d] = some ([.no, .no, .no, .no], .val r)) : callK 4 F l (.val d :: .val c :: .val b :: .val a :: k) [.val a, .val b, .val c, .val d] = some ⟨l, .val r :: k⟩ := by
  simp [callK, lend, toArg, h, okOut, isRes, back]
theorem fCall_1 {k : List Sl} (ha : f z = some ⟨l, .val a :: k⟩) (h : F [.val a] = some ([.no], .val r)) : fCall 1 F [] f z = some ⟨l, .val r :: k⟩ := by
  unfold fCall
  rw [ha, Option.bind_some]
  simp only [List.length_cons, List.take_succ_cons, List.take_zero, List.reverse_cons, List.reverse_nil, List.nil_append, List.map_nil, List.append_nil, List.cons_append]
  first | exact callK_1 h | (rw [if_pos (by simp)]; exact callK_1 h)
theorem fCall_3 {k : List Sl} (ha : f z = some ⟨l, .val c :: .val b :: .val a :: k⟩) (h : F [.val a, .val b, .val c] = some ([.no, .no, .no], .val r)) : fCall 3 F [] f z = some ⟨l, .val r :: k⟩ := by
  unfold fCall
  rw [ha, Option.bind_some]
  simp only [List.length_cons, List.take_succ_cons, List.take_zero, List.reverse_cons, List.reverse_nil, List.nil_append, List.map_nil, List.append_nil, List.cons_append]
  first | exact callK_3 h | (rw [if_pos (by simp)]; exact callK_3 h)
theorem fCall_4 {k : List Sl} (ha : f z = some ⟨l, .val d :: .val c :: .val b :: .val a :: k⟩) (h : F [.val a, .val b, .val c, .val d] = some ([.no, .no, .no, .no], .val r)) : fCall 4 F [] f z = some ⟨l, .val r :: k⟩ := by
  unfold fCall
  rw [ha, Option.bind_some]
  simp only [List.length_cons, List.take_succ_cons, List.take_zero, List.reverse_cons, List.reverse_nil, List.nil_append, List.map_nil, List.append_nil, List.cons_append]
  first | exact callK_4 h | (rw [if_pos (by simp)]; exact callK_4 h)
theorem fLC_ok {rd : FT → SF} {m : Nat} {fb : EF} {G : FT} (h0 : f0 z = some ⟨l, [.val t]⟩) (hg : gAct (l.map keepVal) fb = G) (hr : runF 2 m (rd G) [.val t, .val .fnc] = some ([.no, .no], .val r)) (hn : (l.all nofSl && [Sl.val r].all nofSl) = true) : fLC rd m fb f0 z = some ⟨l, [.val r]⟩ := by
  unfold fLC
  rw [h0, Option.bind_some]
  dsimp only
  rw [hg, callK_f hr, Option.bind_some]
  exact if_pos hn
theorem sPut_ok (h : f z = some z1) (h2 : g z1 = some z2) : sPut f g z = some (.nx z2) := by
  unfold sPut
  rw [h, Option.bind_some, h2]; rfl
theorem sRet_ok (h : f z = some z1) : sRet f z = some (.rt z1) := by
  unfold sRet
  rw [h]; rfl
theorem fB_gives (h : f z = some z1) (h2 : g z1 = some z2) (h3 : o2 o z2 = some z3) : fB o f g z = some z3 := by
  unfold fB
  rw [h, Option.bind_some, h2, Option.bind_some, h3]
theorem gE_ok {b : Bool} (h : f z = some ⟨l, .val (.bl b) :: k⟩) : gE f z = some (b, ⟨l, k⟩) := by
  unfold gE
  rw [h]; rfl
theorem sIf_f (h : p z = some (false, z1)) : sIf p s u z = u z1 := by
  unfold sIf
  rw [h]; rfl
theorem sIf_t (h : p z = some (true, z1)) : sIf p s u z = s z1 := by
  unfold sIf
  rw [h]; rfl
theorem gOr_f (h : p z = some (false, z1)) (h2 : q z1 = some r') : gOr p q z = some r' := by
  unfold gOr
  rw [h]; exact h2
theorem gAnd_t (h : p z = some (true, z1)) (h2 : q z1 = some r') : gAnd p q z = some r' := by
  unfold gAnd
  rw [h]; exact h2
theorem runF_out {n m : Nat} {args : List Sl} {out : List Sl × Sl} (h : s ⟨args ++ List.replicate m .no, []⟩ = some (.rt z)) (ho : (if Nat.ble n z.l.length = true then (rv z).map (fun x => (outs n x.1, x.2)) else none) = some out) : runF n m s args = some out := by
  unfold runF
  rw [h]
  exact ho
end
end Fn
set_option Elab.async false
set_option linter.all false
set_option maxRecDepth 100000
set_option maxHeartbeats 4000000
namespace L37
open PySem PySem.Spec PyProof.Rows L2 Rw Fn LamX
def topS (i : Nat) : Stmt := PySem.Challenge.pw_rainweeks_k37_comparing_known_by_hand.main.body.getD i (.Pass ⟨0, 0, 0, 0⟩)
abbrev sIsIntegerFrom : Stmt := topS 10
abbrev NIsIntegerFrom : List Str := ["value", "least"]
theorem scIsIntegerFrom : FnScope NIsIntegerFrom ["value", "least"] (defScope sIsIntegerFrom) := ⟨rfl, rfl, rfl, by decide +kernel, rfl, by decide +kernel, by decide +kernel⟩
abbrev sIsNumber : Stmt := topS 11
abbrev NIsNumber : List Str := ["value"]
theorem scIsNumber : FnScope NIsNumber ["value"] (defScope sIsNumber) := ⟨rfl, rfl, rfl, by decide +kernel, rfl, by decide +kernel, by decide +kernel⟩
abbrev sIsSequence : Stmt := topS 12
abbrev NIsSequence : List Str := ["value"]
theorem scIsSequence : FnScope NIsSequence ["value"] (defScope sIsSequence) := ⟨rfl, rfl, rfl, by decide +kernel, rfl, by decide +kernel, by decide +kernel⟩
abbrev sIsName : Stmt := topS 13
abbrev NIsName : List Str := ["value", "letter"]
theorem scIsName : FnScope NIsName ["value"] (defScope sIsName) := ⟨rfl, rfl, rfl, by decide +kernel, rfl, by decide +kernel, by decide +kernel⟩
abbrev sMeasureInit : Stmt := inClass (topS 16) 0
abbrev NMeasureInit : List Str := ["self", "most", "span"]
theorem scMeasureInit : FnScope NMeasureInit ["self", "most", "span"] (defScope sMeasureInit) := ⟨rfl, rfl, rfl, by decide +kernel, rfl, by decide +kernel, by decide +kernel⟩
abbrev sMeasureLets : Stmt := inClass (topS 16) 1
abbrev NMeasureLets : List Str := ["self", "rain", "wet", "day", "is_rainy", "later"]
theorem scMeasureLets : FnScope NMeasureLets ["self", "rain"] (defScope sMeasureLets) := ⟨rfl, rfl, rfl, by decide +kernel, rfl, by decide +kernel, by decide +kernel⟩
abbrev sAsRain : Stmt := topS 17
abbrev NAsRain : List Str := ["value", "at", "thing"]
theorem scAsRain : FnScope NAsRain ["value"] (defScope sAsRain) := ⟨rfl, rfl, rfl, by decide +kernel, rfl, by decide +kernel, by decide +kernel⟩
abbrev sPlayDay : Stmt := topS 19
abbrev NPlayDay : List Str := ["week", "rule", "day", "waiting", "is_rainy", "put_here", "to", "own_day", "match", "due", "later", "wait", "lost", "waits"]
theorem scPlayDay : FnScope NPlayDay ["week", "rule", "day", "waiting", "is_rainy"] (defScope sPlayDay) := ⟨rfl, rfl, rfl, by decide +kernel, rfl, by decide +kernel, by decide +kernel⟩
abbrev sPutOff : Stmt := topS 20
abbrev NPutOff : List Str := ["week", "rule", "day", "due", "waiting", "in_turn", "lost", "waits", "own_day", "match", "to"]
theorem scPutOff : FnScope NPutOff ["week", "rule", "day", "due", "waiting"] (defScope sPutOff) := ⟨rfl, rfl, rfl, by decide +kernel, rfl, by decide +kernel, by decide +kernel⟩
abbrev sNewDay : Stmt := topS 21
abbrev NNewDay : List Str := ["week", "rule", "day", "due", "waiting", "own_day", "match", "to"]
theorem scNewDay : FnScope NNewDay ["week", "rule", "day", "due", "waiting"] (defScope sNewDay) := ⟨rfl, rfl, rfl, by decide +kernel, rfl, by decide +kernel, by decide +kernel⟩
abbrev sMatchesNear : Stmt := topS 22
abbrev NMatchesNear : List Str := ["week", "rule", "day", "to", "waiting", "near", "own", "later", "match", "_"]
theorem scMatchesNear : FnScope NMatchesNear ["week", "rule", "day", "to", "waiting"] (defScope sMatchesNear) := ⟨rfl, rfl, rfl, by decide +kernel, rfl, by decide +kernel, by decide +kernel⟩
abbrev sIsBarred : Stmt := topS 23
abbrev NIsBarred : List Str := ["week", "match", "others", "_", "sides", "other", "side"]
theorem scIsBarred : FnScope NIsBarred ["week", "match", "others"] (defScope sIsBarred) := ⟨rfl, rfl, rfl, by decide +kernel, rfl, by decide +kernel, by decide +kernel⟩
abbrev sFirstRain : Stmt := topS 25
abbrev NFirstRain : List Str := ["measure"]
theorem scFirstRain : FnScope NFirstRain ["measure"] (defScope sFirstRain) := ⟨rfl, rfl, rfl, by decide +kernel, rfl, by decide +kernel, by decide +kernel⟩
abbrev sDaysLet : Stmt := topS 26
abbrev NDaysLet : List Str := ["measure", "last_rain", "rains", "is_rainy", "rain"]
theorem scDaysLet : FnScope NDaysLet ["measure", "last_rain"] (defScope sDaysLet) := ⟨rfl, rfl, rfl, by decide +kernel, rfl, by decide +kernel, by decide +kernel⟩
abbrev sStep : Stmt := topS 27
abbrev NStep : List Str := ["week", "rule", "today", "waiting", "is_rainy", "there", "days_ahead", "days_ago", "match", "played", "lost", "waits", "tomorrow", "behind", "to", "own_day", "_"]
theorem scStep : FnScope NStep ["week", "rule", "today", "waiting", "is_rainy"] (defScope sStep) := ⟨rfl, rfl, rfl, by decide +kernel, rfl, by decide +kernel, by decide +kernel⟩
abbrev sRaceStep : Stmt := topS 30
abbrev NRaceStep : List Str := ["week", "today", "race", "one", "other", "one_waiting", "other_waiting", "missed", "one_rule", "one_is_rainy", "other_rule", "other_is_rainy", "_", "lost", "one_behind", "played", "other_behind", "never", "not_yet", "is_late", "pair", "waits", "missed_behind", "days_ago", "match"]
theorem scRaceStep : FnScope NRaceStep ["week", "today", "race", "one", "other"] (defScope sRaceStep) := ⟨rfl, rfl, rfl, by decide +kernel, rfl, by decide +kernel, by decide +kernel⟩
abbrev sOwnDays : Stmt := topS 31
abbrev NOwnDays : List Str := ["behind", "_", "days_ago", "match"]
theorem scOwnDays : FnScope NOwnDays ["behind"] (defScope sOwnDays) := ⟨rfl, rfl, rfl, by decide +kernel, rfl, by decide +kernel, by decide +kernel⟩
abbrev sSearch : Stmt := topS 33
abbrev NSearch : List Str := ["first", "steps_of", "came", "layer", "next_layer", "state", "mark", "is_shown", "behind"]
theorem scSearch : FnScope NSearch ["first", "steps_of"] (defScope sSearch) := ⟨rfl, rfl, rfl, by decide +kernel, rfl, by decide +kernel, by decide +kernel⟩
abbrev sMarksTo : Stmt := topS 34
abbrev NMarksTo : List Str := ["came", "state", "marks", "mark"]
theorem scMarksTo : FnScope NMarksTo ["came", "state"] (defScope sMarksTo) := ⟨rfl, rfl, rfl, by decide +kernel, rfl, by decide +kernel, by decide +kernel⟩
abbrev sAlike : Stmt := topS 36
abbrev NAlike : List Str := ["week", "p", "q", "measure"]
theorem scAlike : FnScope NAlike ["week", "p", "q", "measure"] (defScope sAlike) := ⟨rfl, rfl, rfl, by decide +kernel, rfl, by decide +kernel, by decide +kernel⟩
abbrev sParting : Stmt := topS 37
abbrev NParting : List Str := ["week", "p", "q", "measure", "first", "_", "rain"]
theorem scParting : FnScope NParting ["week", "p", "q", "measure"] (defScope sParting) := ⟨rfl, rfl, rfl, by decide +kernel, rfl, by decide +kernel, by decide +kernel⟩
abbrev sOrderCounts : Stmt := topS 38
abbrev NOrderCounts : List Str := ["week", "rule", "measure"]
theorem scOrderCounts : FnScope NOrderCounts ["week", "rule", "measure"] (defScope sOrderCounts) := ⟨rfl, rfl, rfl, by decide +kernel, rfl, by decide +kernel, by decide +kernel⟩
abbrev sNeverLater : Stmt := topS 39
abbrev NNeverLater : List Str := ["week", "p", "q", "measure"]
theorem scNeverLater : FnScope NNeverLater ["week", "p", "q", "measure"] (defScope sNeverLater) := ⟨rfl, rfl, rfl, by decide +kernel, rfl, by decide +kernel, by decide +kernel⟩
abbrev sLater : Stmt := topS 40
abbrev NLater : List Str := ["week", "p", "q", "measure", "first", "_", "rain"]
theorem scLater : FnScope NLater ["week", "p", "q", "measure"] (defScope sLater) := ⟨rfl, rfl, rfl, by decide +kernel, rfl, by decide +kernel, by decide +kernel⟩
abbrev sPairSteps : Stmt := topS 41
abbrev NPairSteps : List Str := ["week", "p", "q", "measure", "pair", "today", "p_waiting", "q_waiting", "last_rain", "steps", "is_rainy", "rain", "p_played", "p_lost", "p_behind", "q_played", "q_lost", "q_behind", "is_unlike"]
theorem scPairSteps : FnScope NPairSteps ["week", "p", "q", "measure", "pair"] (defScope sPairSteps) := ⟨rfl, rfl, rfl, by decide +kernel, rfl, by decide +kernel, by decide +kernel⟩
abbrev sRaceSteps : Stmt := topS 42
abbrev NRaceSteps : List Str := ["week", "p", "q", "measure", "state", "today", "race", "last_rain", "steps", "is_rainy", "rain", "is_late", "behind"]
theorem scRaceSteps : FnScope NRaceSteps ["week", "p", "q", "measure", "state"] (defScope sRaceSteps) := ⟨rfl, rfl, rfl, by decide +kernel, rfl, by decide +kernel, by decide +kernel⟩
abbrev sPerverse : Stmt := topS 44
abbrev NPerverse : List Str := ["week", "rule", "measure"]
theorem scPerverse : FnScope NPerverse ["week", "rule", "measure"] (defScope sPerverse) := ⟨rfl, rfl, rfl, by decide +kernel, rfl, by decide +kernel, by decide +kernel⟩
abbrev sPerverseRain : Stmt := topS 45
abbrev NPerverseRain : List Str := ["week", "rule", "measure", "first", "_", "marks", "dried", "is_dried", "is_rainy"]
theorem scPerverseRain : FnScope NPerverseRain ["week", "rule", "measure"] (defScope sPerverseRain) := ⟨rfl, rfl, rfl, by decide +kernel, rfl, by decide +kernel, by decide +kernel⟩
abbrev sSteps : Stmt := topS 46
abbrev NSteps : List Str := ["week", "rule", "measure", "state", "today", "race", "has_dried", "last_rain", "steps", "is_rainy", "rain", "is_dried", "drier", "is_late", "behind", "state_behind"]
theorem scSteps : FnScope NSteps ["week", "rule", "measure", "state"] (defScope sSteps) := ⟨rfl, rfl, rfl, by decide +kernel, rfl, by decide +kernel, by decide +kernel⟩
abbrev sRuleInit : Stmt := inClass (topS 49) 0
abbrev NRuleInit : List Str := ["self", "gap", "window", "let", "order", "day"]
theorem scRuleInit : FnScope NRuleInit ["self", "gap", "window", "let", "order"] (defScope sRuleInit) := ⟨rfl, rfl, rfl, by decide +kernel, rfl, by decide +kernel, by decide +kernel⟩
abbrev sRuleBut : Stmt := inClass (topS 49) 1
abbrev NRuleBut : List Str := ["self", "gap", "window", "let", "order"]
theorem scRuleBut : FnScope NRuleBut ["self", "gap", "window", "let", "order"] (defScope sRuleBut) := ⟨rfl, rfl, rfl, by decide +kernel, rfl, by decide +kernel, by decide +kernel⟩
abbrev sWeekInit : Stmt := inClass (topS 51) 0
abbrev NWeekInit : List Str := ["self", "days", "matches"]
theorem scWeekInit : FnScope NWeekInit ["self", "days", "matches"] (defScope sWeekInit) := ⟨rfl, rfl, rfl, by decide +kernel, rfl, by decide +kernel, by decide +kernel⟩
abbrev sWeekOn : Stmt := inClass (topS 51) 2
abbrev NWeekOn : List Str := ["self", "day", "own_day", "at", "match"]
theorem scWeekOn : FnScope NWeekOn ["self", "day"] (defScope sWeekOn) := ⟨rfl, rfl, rfl, by decide +kernel, rfl, by decide +kernel, by decide +kernel⟩
abbrev sAreMatches : Stmt := topS 52
abbrev NAreMatches : List Str := ["value", "days", "thing", "places", "day", "one", "other", "side"]
theorem scAreMatches : FnScope NAreMatches ["value", "days"] (defScope sAreMatches) := ⟨rfl, rfl, rfl, by decide +kernel, rfl, by decide +kernel, by decide +kernel⟩
abbrev sIsMatch : Stmt := topS 53
abbrev NIsMatch : List Str := ["value", "days"]
theorem scIsMatch : FnScope NIsMatch ["value", "days"] (defScope sIsMatch) := ⟨rfl, rfl, rfl, by decide +kernel, rfl, by decide +kernel, by decide +kernel⟩
abbrev sBox : Stmt := topS 56
abbrev NBox : List Str := ["_law_script", "_law_k", "_law_cell", "_law_seed"]
theorem scBox : FnScope NBox ["_law_script", "_law_k"] (defScope sBox) := ⟨rfl, rfl, rfl, by decide +kernel, rfl, by decide +kernel, by decide +kernel⟩
abbrev sTake : Stmt := topS 57
abbrev NTake : List Str := ["_law_box_here", "_law_many", "_law_digit", "_law_one"]
theorem scTake : FnScope NTake ["_law_box_here", "_law_many"] (defScope sTake) := ⟨rfl, rfl, rfl, by decide +kernel, rfl, by decide +kernel, by decide +kernel⟩
abbrev sLaw : Stmt := topS 60
abbrev NLaw : List Str := ["_law_script", "_law_k", "_law_box_here", "_law_span", "_law_wet", "_law_one", "_law_soon", "_law_slow", "_law_none", "_law_two", "_law_late"]
theorem scLaw : FnScope NLaw ["_law_script"] (defScope sLaw) := ⟨rfl, rfl, rfl, by decide +kernel, rfl, by decide +kernel, by decide +kernel⟩
structure Txt (K : PySem.W.Frag) (mg : Str → Option Value) where
  fIsIntegerFrom : Addr
  fdIsIntegerFrom : FuncData
  FIsIntegerFrom : Fun K "is_integer_from" "is_integer_from" sIsIntegerFrom fIsIntegerFrom fdIsIntegerFrom
  gIsIntegerFrom : mg "is_integer_from" = some (.ref fIsIntegerFrom)
  fIsNumber : Addr
  fdIsNumber : FuncData
  FIsNumber : Fun K "is_number" "is_number" sIsNumber fIsNumber fdIsNumber
  gIsNumber : mg "is_number" = some (.ref fIsNumber)
  fIsSequence : Addr
  fdIsSequence : FuncData
  FIsSequence : Fun K "is_sequence" "is_sequence" sIsSequence fIsSequence fdIsSequence
  gIsSequence : mg "is_sequence" = some (.ref fIsSequence)
  fIsName : Addr
  fdIsName : FuncData
  FIsName : Fun K "is_name" "is_name" sIsName fIsName fdIsName
  gIsName : mg "is_name" = some (.ref fIsName)
  fMeasureInit : Addr
  fdMeasureInit : FuncData
  FMeasureInit : Fun K "__init__" "Measure.__init__" sMeasureInit fMeasureInit fdMeasureInit
  fMeasureLets : Addr
  fdMeasureLets : FuncData
  FMeasureLets : Fun K "lets" "Measure.lets" sMeasureLets fMeasureLets fdMeasureLets
  fAsRain : Addr
  fdAsRain : FuncData
  FAsRain : Fun K "as_rain" "as_rain" sAsRain fAsRain fdAsRain
  gAsRain : mg "as_rain" = some (.ref fAsRain)
  fPlayDay : Addr
  fdPlayDay : FuncData
  FPlayDay : Fun K "play_day" "play_day" sPlayDay fPlayDay fdPlayDay
  gPlayDay : mg "play_day" = some (.ref fPlayDay)
  fPutOff : Addr
  fdPutOff : FuncData
  FPutOff : Fun K "_put_off" "_put_off" sPutOff fPutOff fdPutOff
  gPutOff : mg "_put_off" = some (.ref fPutOff)
  fNewDay : Addr
  fdNewDay : FuncData
  FNewDay : Fun K "_new_day" "_new_day" sNewDay fNewDay fdNewDay
  gNewDay : mg "_new_day" = some (.ref fNewDay)
  fMatchesNear : Addr
  fdMatchesNear : FuncData
  FMatchesNear : Fun K "_matches_near" "_matches_near" sMatchesNear fMatchesNear fdMatchesNear
  gMatchesNear : mg "_matches_near" = some (.ref fMatchesNear)
  fIsBarred : Addr
  fdIsBarred : FuncData
  FIsBarred : Fun K "_is_barred" "_is_barred" sIsBarred fIsBarred fdIsBarred
  gIsBarred : mg "_is_barred" = some (.ref fIsBarred)
  fFirstRain : Addr
  fdFirstRain : FuncData
  FFirstRain : Fun K "first_rain" "first_rain" sFirstRain fFirstRain fdFirstRain
  gFirstRain : mg "first_rain" = some (.ref fFirstRain)
  fDaysLet : Addr
  fdDaysLet : FuncData
  FDaysLet : Fun K "days_let" "days_let" sDaysLet fDaysLet fdDaysLet
  gDaysLet : mg "days_let" = some (.ref fDaysLet)
  fStep : Addr
  fdStep : FuncData
  FStep : Fun K "step" "step" sStep fStep fdStep
  gStep : mg "step" = some (.ref fStep)
  fRaceStep : Addr
  fdRaceStep : FuncData
  FRaceStep : Fun K "race_step" "race_step" sRaceStep fRaceStep fdRaceStep
  gRaceStep : mg "race_step" = some (.ref fRaceStep)
  fOwnDays : Addr
  fdOwnDays : FuncData
  FOwnDays : Fun K "_own_days" "_own_days" sOwnDays fOwnDays fdOwnDays
  gOwnDays : mg "_own_days" = some (.ref fOwnDays)
  fSearch : Addr
  fdSearch : FuncData
  FSearch : Fun K "search" "search" sSearch fSearch fdSearch
  gSearch : mg "search" = some (.ref fSearch)
  fMarksTo : Addr
  fdMarksTo : FuncData
  FMarksTo : Fun K "_marks_to" "_marks_to" sMarksTo fMarksTo fdMarksTo
  gMarksTo : mg "_marks_to" = some (.ref fMarksTo)
  fAlike : Addr
  fdAlike : FuncData
  FAlike : Fun K "alike" "alike" sAlike fAlike fdAlike
  gAlike : mg "alike" = some (.ref fAlike)
  fParting : Addr
  fdParting : FuncData
  cParting : Addr
  PParting : Addr
  LParting : FunC K "parting" "parting" sParting fParting fdParting (.ref cParting)
  gParting : mg "parting" = some (.ref fParting)
  fOrderCounts : Addr
  fdOrderCounts : FuncData
  FOrderCounts : Fun K "order_counts" "order_counts" sOrderCounts fOrderCounts fdOrderCounts
  gOrderCounts : mg "order_counts" = some (.ref fOrderCounts)
  fNeverLater : Addr
  fdNeverLater : FuncData
  FNeverLater : Fun K "never_later" "never_later" sNeverLater fNeverLater fdNeverLater
  gNeverLater : mg "never_later" = some (.ref fNeverLater)
  fLater : Addr
  fdLater : FuncData
  cLater : Addr
  PLater : Addr
  LLater : FunC K "later" "later" sLater fLater fdLater (.ref cLater)
  gLater : mg "later" = some (.ref fLater)
  fPairSteps : Addr
  fdPairSteps : FuncData
  FPairSteps : Fun K "_pair_steps" "_pair_steps" sPairSteps fPairSteps fdPairSteps
  gPairSteps : mg "_pair_steps" = some (.ref fPairSteps)
  fRaceSteps : Addr
  fdRaceSteps : FuncData
  FRaceSteps : Fun K "_race_steps" "_race_steps" sRaceSteps fRaceSteps fdRaceSteps
  gRaceSteps : mg "_race_steps" = some (.ref fRaceSteps)
  fPerverse : Addr
  fdPerverse : FuncData
  FPerverse : Fun K "perverse" "perverse" sPerverse fPerverse fdPerverse
  gPerverse : mg "perverse" = some (.ref fPerverse)
  fPerverseRain : Addr
  fdPerverseRain : FuncData
  cPerverseRain : Addr
  PPerverseRain : Addr
  LPerverseRain : FunC K "perverse_rain" "perverse_rain" sPerverseRain fPerverseRain fdPerverseRain (.ref cPerverseRain)
  gPerverseRain : mg "perverse_rain" = some (.ref fPerverseRain)
  fSteps : Addr
  fdSteps : FuncData
  FSteps : Fun K "_steps" "_steps" sSteps fSteps fdSteps
  gSteps : mg "_steps" = some (.ref fSteps)
  fRuleInit : Addr
  fdRuleInit : FuncData
  FRuleInit : FunD K "__init__" "Rule.__init__" (defArgs sRuleInit) (defBody sRuleInit) (defScope sRuleInit) [.str "first"] [] fRuleInit fdRuleInit
  fRuleBut : Addr
  fdRuleBut : FuncData
  FRuleBut : FunD K "but" "Rule.but" (defArgs sRuleBut) (defBody sRuleBut) (defScope sRuleBut) [.non, .non, .non, .non] [] fRuleBut fdRuleBut
  fWeekInit : Addr
  fdWeekInit : FuncData
  FWeekInit : Fun K "__init__" "Week.__init__" sWeekInit fWeekInit fdWeekInit
  fWeekOn : Addr
  fdWeekOn : FuncData
  FWeekOn : Fun K "on" "Week.on" sWeekOn fWeekOn fdWeekOn
  fAreMatches : Addr
  fdAreMatches : FuncData
  FAreMatches : Fun K "_are_matches" "_are_matches" sAreMatches fAreMatches fdAreMatches
  gAreMatches : mg "_are_matches" = some (.ref fAreMatches)
  fIsMatch : Addr
  fdIsMatch : FuncData
  FIsMatch : Fun K "_is_match" "_is_match" sIsMatch fIsMatch fdIsMatch
  gIsMatch : mg "_is_match" = some (.ref fIsMatch)
  fBox : Addr
  fdBox : FuncData
  FBox : Fun K "_law_box" "_law_box" sBox fBox fdBox
  gBox : mg "_law_box" = some (.ref fBox)
  fTake : Addr
  fdTake : FuncData
  FTake : Fun K "_law_take" "_law_take" sTake fTake fdTake
  gTake : mg "_law_take" = some (.ref fTake)
  fLaw : Addr
  fdLaw : FuncData
  FLaw : Fun K "law" "law" sLaw fLaw fdLaw
  gLaw : mg "law" = some (.ref fLaw)
  CWeek : Addr
  gWeek : mg "Week" = some (.ref CWeek)
  clWeek : Cls K CWeek
  MWeek : Mk K CWeek fWeekInit
  nWeek_days : NoAttr K CWeek "days"
  nWeek_matches : NoAttr K CWeek "matches"
  mWeekOn : Meth K CWeek "on" fWeekOn
  CRule : Addr
  gRule : mg "Rule" = some (.ref CRule)
  clRule : Cls K CRule
  MRule : Mk K CRule fRuleInit
  nRule_gap : NoAttr K CRule "gap"
  nRule_window : NoAttr K CRule "window"
  nRule_let : NoAttr K CRule "let"
  nRule_order : NoAttr K CRule "order"
  mRuleBut : Meth K CRule "but" fRuleBut
  CMeasure : Addr
  gMeasure : mg "Measure" = some (.ref CMeasure)
  clMeasure : Cls K CMeasure
  MMeasure : Mk K CMeasure fMeasureInit
  nMeasure_most : NoAttr K CMeasure "most"
  nMeasure_span : NoAttr K CMeasure "span"
  mMeasureLets : Meth K CMeasure "lets" fMeasureLets
  aORDERS : Addr
  gORDERS : mg "ORDERS" = some (.ref aORDERS)
  qORDERS : ∀ H : Hp, SqT K H aORDERS [V.str "first", V.str "last"]
  kLETTERS : Tok
  gLETTERS : mg "LETTERS" = some (.str "abcdefghijklmnopqrstuvwxyz" kLETTERS)
  aSTART : Addr
  gSTART : mg "START" = some (.ref aSTART)
  qSTART : trB K (.tup [.tup [], .tup [], .tup []]) (.ref aSTART) = true
  m_abs : mg "abs" = none
  m_all : mg "all" = none
  m_any : mg "any" = none
  m_bool : mg "bool" = none
  m_enumerate : mg "enumerate" = none
  m_int : mg "int" = none
  m_isinstance : mg "isinstance" = none
  m_len : mg "len" = none
  m_list : mg "list" = none
  m_max : mg "max" = none
  m_min : mg "min" = none
  m_range : mg "range" = none
  m_set : mg "set" = none
  m_sorted : mg "sorted" = none
  m_str : mg "str" = none
  m_tuple : mg "tuple" = none
  m_zip : mg "zip" = none
  tnd : [PParting, PLater, PPerverseRain].Nodup
theorem bIsIntegerFrom {K : PySem.W.Frag} {mg : Str → Option Value} (T : Txt K mg) : Binds K T.fdIsIntegerFrom ["value", "least"] [] := T.FIsIntegerFrom.binds fun _ _ _ _ _ _ us hl => match us, hl with | [_, _], _ => rfl
theorem bIsNumber {K : PySem.W.Frag} {mg : Str → Option Value} (T : Txt K mg) : Binds K T.fdIsNumber ["value"] [] := T.FIsNumber.binds fun _ _ _ _ _ _ us hl => match us, hl with | [_], _ => rfl
theorem bIsSequence {K : PySem.W.Frag} {mg : Str → Option Value} (T : Txt K mg) : Binds K T.fdIsSequence ["value"] [] := T.FIsSequence.binds fun _ _ _ _ _ _ us hl => match us, hl with | [_], _ => rfl
theorem bIsName {K : PySem.W.Frag} {mg : Str → Option Value} (T : Txt K mg) : Binds K T.fdIsName ["value"] [] := T.FIsName.binds fun _ _ _ _ _ _ us hl => match us, hl with | [_], _ => rfl
theorem bMeasureInit {K : PySem.W.Frag} {mg : Str → Option Value} (T : Txt K mg) : Binds K T.fdMeasureInit ["self", "most", "span"] [] := T.FMeasureInit.binds fun _ _ _ _ _ _ us hl => match us, hl with | [_, _, _], _ => rfl
theorem bMeasureLets {K : PySem.W.Frag} {mg : Str → Option Value} (T : Txt K mg) : Binds K T.fdMeasureLets ["self", "rain"] [] := T.FMeasureLets.binds fun _ _ _ _ _ _ us hl => match us, hl with | [_, _], _ => rfl
theorem bAsRain {K : PySem.W.Frag} {mg : Str → Option Value} (T : Txt K mg) : Binds K T.fdAsRain ["value"] [] := T.FAsRain.binds fun _ _ _ _ _ _ us hl => match us, hl with | [_], _ => rfl
theorem bPlayDay {K : PySem.W.Frag} {mg : Str → Option Value} (T : Txt K mg) : Binds K T.fdPlayDay ["week", "rule", "day", "waiting", "is_rainy"] [] := T.FPlayDay.binds fun _ _ _ _ _ _ us hl => match us, hl with | [_, _, _, _, _], _ => rfl
theorem bPutOff {K : PySem.W.Frag} {mg : Str → Option Value} (T : Txt K mg) : Binds K T.fdPutOff ["week", "rule", "day", "due", "waiting"] [] := T.FPutOff.binds fun _ _ _ _ _ _ us hl => match us, hl with | [_, _, _, _, _], _ => rfl
theorem bNewDay {K : PySem.W.Frag} {mg : Str → Option Value} (T : Txt K mg) : Binds K T.fdNewDay ["week", "rule", "day", "due", "waiting"] [] := T.FNewDay.binds fun _ _ _ _ _ _ us hl => match us, hl with | [_, _, _, _, _], _ => rfl
theorem bMatchesNear {K : PySem.W.Frag} {mg : Str → Option Value} (T : Txt K mg) : Binds K T.fdMatchesNear ["week", "rule", "day", "to", "waiting"] [] := T.FMatchesNear.binds fun _ _ _ _ _ _ us hl => match us, hl with | [_, _, _, _, _], _ => rfl
theorem bIsBarred {K : PySem.W.Frag} {mg : Str → Option Value} (T : Txt K mg) : Binds K T.fdIsBarred ["week", "match", "others"] [] := T.FIsBarred.binds fun _ _ _ _ _ _ us hl => match us, hl with | [_, _, _], _ => rfl
theorem bFirstRain {K : PySem.W.Frag} {mg : Str → Option Value} (T : Txt K mg) : Binds K T.fdFirstRain ["measure"] [] := T.FFirstRain.binds fun _ _ _ _ _ _ us hl => match us, hl with | [_], _ => rfl
theorem bDaysLet {K : PySem.W.Frag} {mg : Str → Option Value} (T : Txt K mg) : Binds K T.fdDaysLet ["measure", "last_rain"] [] := T.FDaysLet.binds fun _ _ _ _ _ _ us hl => match us, hl with | [_, _], _ => rfl
theorem bStep {K : PySem.W.Frag} {mg : Str → Option Value} (T : Txt K mg) : Binds K T.fdStep ["week", "rule", "today", "waiting", "is_rainy"] [] := T.FStep.binds fun _ _ _ _ _ _ us hl => match us, hl with | [_, _, _, _, _], _ => rfl
theorem bRaceStep {K : PySem.W.Frag} {mg : Str → Option Value} (T : Txt K mg) : Binds K T.fdRaceStep ["week", "today", "race", "one", "other"] [] := T.FRaceStep.binds fun _ _ _ _ _ _ us hl => match us, hl with | [_, _, _, _, _], _ => rfl
theorem bOwnDays {K : PySem.W.Frag} {mg : Str → Option Value} (T : Txt K mg) : Binds K T.fdOwnDays ["behind"] [] := T.FOwnDays.binds fun _ _ _ _ _ _ us hl => match us, hl with | [_], _ => rfl
theorem bSearch {K : PySem.W.Frag} {mg : Str → Option Value} (T : Txt K mg) : Binds K T.fdSearch ["first", "steps_of"] [] := T.FSearch.binds fun _ _ _ _ _ _ us hl => match us, hl with | [_, _], _ => rfl
theorem bMarksTo {K : PySem.W.Frag} {mg : Str → Option Value} (T : Txt K mg) : Binds K T.fdMarksTo ["came", "state"] [] := T.FMarksTo.binds fun _ _ _ _ _ _ us hl => match us, hl with | [_, _], _ => rfl
theorem bAlike {K : PySem.W.Frag} {mg : Str → Option Value} (T : Txt K mg) : Binds K T.fdAlike ["week", "p", "q", "measure"] [] := T.FAlike.binds fun _ _ _ _ _ _ us hl => match us, hl with | [_, _, _, _], _ => rfl
theorem Txt.FParting {K : PySem.W.Frag} {mg : Str → Option Value} (T : Txt K mg) : Fun K "parting" "parting" sParting T.fParting T.fdParting := T.LParting.fn
theorem bParting {K : PySem.W.Frag} {mg : Str → Option Value} (T : Txt K mg) : Binds K T.fdParting ["week", "p", "q", "measure"] [] := T.FParting.binds fun _ _ _ _ _ _ us hl => match us, hl with | [_, _, _, _], _ => rfl
theorem bOrderCounts {K : PySem.W.Frag} {mg : Str → Option Value} (T : Txt K mg) : Binds K T.fdOrderCounts ["week", "rule", "measure"] [] := T.FOrderCounts.binds fun _ _ _ _ _ _ us hl => match us, hl with | [_, _, _], _ => rfl
theorem bNeverLater {K : PySem.W.Frag} {mg : Str → Option Value} (T : Txt K mg) : Binds K T.fdNeverLater ["week", "p", "q", "measure"] [] := T.FNeverLater.binds fun _ _ _ _ _ _ us hl => match us, hl with | [_, _, _, _], _ => rfl
theorem Txt.FLater {K : PySem.W.Frag} {mg : Str → Option Value} (T : Txt K mg) : Fun K "later" "later" sLater T.fLater T.fdLater := T.LLater.fn
theorem bLater {K : PySem.W.Frag} {mg : Str → Option Value} (T : Txt K mg) : Binds K T.fdLater ["week", "p", "q", "measure"] [] := T.FLater.binds fun _ _ _ _ _ _ us hl => match us, hl with | [_, _, _, _], _ => rfl
theorem bPairSteps {K : PySem.W.Frag} {mg : Str → Option Value} (T : Txt K mg) : Binds K T.fdPairSteps ["week", "p", "q", "measure", "pair"] [] := T.FPairSteps.binds fun _ _ _ _ _ _ us hl => match us, hl with | [_, _, _, _, _], _ => rfl
theorem bRaceSteps {K : PySem.W.Frag} {mg : Str → Option Value} (T : Txt K mg) : Binds K T.fdRaceSteps ["week", "p", "q", "measure", "state"] [] := T.FRaceSteps.binds fun _ _ _ _ _ _ us hl => match us, hl with | [_, _, _, _, _], _ => rfl
theorem bPerverse {K : PySem.W.Frag} {mg : Str → Option Value} (T : Txt K mg) : Binds K T.fdPerverse ["week", "rule", "measure"] [] := T.FPerverse.binds fun _ _ _ _ _ _ us hl => match us, hl with | [_, _, _], _ => rfl
theorem Txt.FPerverseRain {K : PySem.W.Frag} {mg : Str → Option Value} (T : Txt K mg) : Fun K "perverse_rain" "perverse_rain" sPerverseRain T.fPerverseRain T.fdPerverseRain := T.LPerverseRain.fn
theorem bPerverseRain {K : PySem.W.Frag} {mg : Str → Option Value} (T : Txt K mg) : Binds K T.fdPerverseRain ["week", "rule", "measure"] [] := T.FPerverseRain.binds fun _ _ _ _ _ _ us hl => match us, hl with | [_, _, _], _ => rfl
theorem bSteps {K : PySem.W.Frag} {mg : Str → Option Value} (T : Txt K mg) : Binds K T.fdSteps ["week", "rule", "measure", "state"] [] := T.FSteps.binds fun _ _ _ _ _ _ us hl => match us, hl with | [_, _, _, _], _ => rfl
theorem bWeekInit {K : PySem.W.Frag} {mg : Str → Option Value} (T : Txt K mg) : Binds K T.fdWeekInit ["self", "days", "matches"] [] := T.FWeekInit.binds fun _ _ _ _ _ _ us hl => match us, hl with | [_, _, _], _ => rfl
theorem bWeekOn {K : PySem.W.Frag} {mg : Str → Option Value} (T : Txt K mg) : Binds K T.fdWeekOn ["self", "day"] [] := T.FWeekOn.binds fun _ _ _ _ _ _ us hl => match us, hl with | [_, _], _ => rfl
theorem bAreMatches {K : PySem.W.Frag} {mg : Str → Option Value} (T : Txt K mg) : Binds K T.fdAreMatches ["value", "days"] [] := T.FAreMatches.binds fun _ _ _ _ _ _ us hl => match us, hl with | [_, _], _ => rfl
theorem bIsMatch {K : PySem.W.Frag} {mg : Str → Option Value} (T : Txt K mg) : Binds K T.fdIsMatch ["value", "days"] [] := T.FIsMatch.binds fun _ _ _ _ _ _ us hl => match us, hl with | [_, _], _ => rfl
theorem bBox {K : PySem.W.Frag} {mg : Str → Option Value} (T : Txt K mg) : Binds K T.fdBox ["_law_script", "_law_k"] [] := T.FBox.binds fun _ _ _ _ _ _ us hl => match us, hl with | [_, _], _ => rfl
theorem bTake {K : PySem.W.Frag} {mg : Str → Option Value} (T : Txt K mg) : Binds K T.fdTake ["_law_box_here", "_law_many"] [] := T.FTake.binds fun _ _ _ _ _ _ us hl => match us, hl with | [_, _], _ => rfl
theorem bLaw {K : PySem.W.Frag} {mg : Str → Option Value} (T : Txt K mg) : Binds K T.fdLaw ["_law_script"] [] := T.FLaw.binds fun _ _ _ _ _ _ us hl => match us, hl with | [_], _ => rfl
section
variable {K : PySem.W.Frag} {mg : Str → Option Value}
def clT (T : Txt K mg) (c : Str) : Addr := ((([("Week", T.CWeek), ("Rule", T.CRule), ("Measure", T.CMeasure)] : List (Str × Addr)).lookup c).getD 0)
abbrev csT (T : Txt K mg) : List (Addr × Addr) := [(T.cParting, T.PParting), (T.cLater, T.PLater), (T.cPerverseRain, T.PPerverseRain)]
abbrev tbT (T : Txt K mg) : List (Addr × Str) := [(T.PParting, "parting.<locals>.<lambda>"), (T.PLater, "later.<locals>.<lambda>"), (T.PPerverseRain, "perverse_rain.<locals>.<lambda>")]
abbrev evT (T : Txt K mg) (w : World) (fn : Option (Addr × Hp × (Addr → Prop))) : Ev := ⟨clT T, w, K, tbT T, fn⟩
theorem Txt.td (T : Txt K mg) : ((tbT T).map (·.1)).Nodup := T.tnd
theorem Txt.tmParting (T : Txt K mg) : (T.cParting, T.PParting) ∈ csT T := (.head _)
theorem Txt.tnParting (T : Txt K mg) : (T.PParting, ("parting.<locals>.<lambda>" : Str)) ∈ tbT T := (.head _)
theorem Txt.tmLater (T : Txt K mg) : (T.cLater, T.PLater) ∈ csT T := (.tail _ (.head _))
theorem Txt.tnLater (T : Txt K mg) : (T.PLater, ("later.<locals>.<lambda>" : Str)) ∈ tbT T := (.tail _ (.head _))
theorem Txt.tmPerverseRain (T : Txt K mg) : (T.cPerverseRain, T.PPerverseRain) ∈ csT T := (.tail _ (.tail _ (.head _)))
theorem Txt.tnPerverseRain (T : Txt K mg) : (T.PPerverseRain, ("perverse_rain.<locals>.<lambda>" : Str)) ∈ tbT T := (.tail _ (.tail _ (.head _)))
theorem na_days (T : Txt K mg) {w : World} {fn : Option (Addr × Hp × (Addr → Prop))} : NoAt K (evT T w fn) ["Week"] "days" := fun c hc => by
  simp only [List.mem_cons, List.mem_singleton, List.not_mem_nil, or_false] at hc
  rcases hc with rfl
  · exact ⟨T.clWeek, T.nWeek_days⟩
theorem na_gap (T : Txt K mg) {w : World} {fn : Option (Addr × Hp × (Addr → Prop))} : NoAt K (evT T w fn) ["Rule"] "gap" := fun c hc => by
  simp only [List.mem_cons, List.mem_singleton, List.not_mem_nil, or_false] at hc
  rcases hc with rfl
  · exact ⟨T.clRule, T.nRule_gap⟩
theorem na_let (T : Txt K mg) {w : World} {fn : Option (Addr × Hp × (Addr → Prop))} : NoAt K (evT T w fn) ["Rule"] "let" := fun c hc => by
  simp only [List.mem_cons, List.mem_singleton, List.not_mem_nil, or_false] at hc
  rcases hc with rfl
  · exact ⟨T.clRule, T.nRule_let⟩
theorem na_matches (T : Txt K mg) {w : World} {fn : Option (Addr × Hp × (Addr → Prop))} : NoAt K (evT T w fn) ["Week"] "matches" := fun c hc => by
  simp only [List.mem_cons, List.mem_singleton, List.not_mem_nil, or_false] at hc
  rcases hc with rfl
  · exact ⟨T.clWeek, T.nWeek_matches⟩
theorem na_most (T : Txt K mg) {w : World} {fn : Option (Addr × Hp × (Addr → Prop))} : NoAt K (evT T w fn) ["Measure"] "most" := fun c hc => by
  simp only [List.mem_cons, List.mem_singleton, List.not_mem_nil, or_false] at hc
  rcases hc with rfl
  · exact ⟨T.clMeasure, T.nMeasure_most⟩
theorem na_order (T : Txt K mg) {w : World} {fn : Option (Addr × Hp × (Addr → Prop))} : NoAt K (evT T w fn) ["Rule"] "order" := fun c hc => by
  simp only [List.mem_cons, List.mem_singleton, List.not_mem_nil, or_false] at hc
  rcases hc with rfl
  · exact ⟨T.clRule, T.nRule_order⟩
theorem na_span (T : Txt K mg) {w : World} {fn : Option (Addr × Hp × (Addr → Prop))} : NoAt K (evT T w fn) ["Measure"] "span" := fun c hc => by
  simp only [List.mem_cons, List.mem_singleton, List.not_mem_nil, or_false] at hc
  rcases hc with rfl
  · exact ⟨T.clMeasure, T.nMeasure_span⟩
theorem na_window (T : Txt K mg) {w : World} {fn : Option (Addr × Hp × (Addr → Prop))} : NoAt K (evT T w fn) ["Rule"] "window" := fun c hc => by
  simp only [List.mem_cons, List.mem_singleton, List.not_mem_nil, or_false] at hc
  rcases hc with rfl
  · exact ⟨T.clRule, T.nRule_window⟩
abbrev tORDERS : Fn.T := .tup [.str "first", .str "last"]
theorem rep_ORDERS (T : Txt K mg) {w : World} {fn : Option (Addr × Hp × (Addr → Prop))} (M : Addr → Prop) (H : Hp) : Rep (evT T w fn) M H (.ref T.aORDERS) tORDERS := by
  refine .ktup (xs := [.str "first", .str "last"]) ?_ (.cons (.str _) (.cons (.str _) .nil))
  rcases T.qORDERS (fun _ => none) with (h | ⟨o, h⟩) | h
  · cases h
  · cases h
  · exact h
abbrev tSTART : Fn.T := .tup [.tup [], .tup [], .tup []]
theorem rep_START (T : Txt K mg) {w : World} {fn : Option (Addr × Hp × (Addr → Prop))} (M : Addr → Prop) (H : Hp) : Rep (evT T w fn) M H (.ref T.aSTART) tSTART := trB_ref T.qSTART rfl M H
end
end L37
set_option Elab.async false
set_option linter.all false
set_option maxRecDepth 100000
set_option maxHeartbeats 4000000
namespace L37
open PySem PySem.Spec PyProof.Rows L2 Rw Fn LamX
def rd_Box : SF := (sSeq (sPut (fB oAdd (fB oMul (fC (.int 6917)) (fV 1)) (fC (.int 157))) (put 2))
  (sSeq (sIf (gE (fB oLt (fV 1) (fCB 1 oLen (f2 (fV 0) f0))))
  (sPut (fCB 1 oAbs (f2 (fB oIx (fV 0) (fV 1)) f0)) (put 2))
  (sIf (gE (fB oGt (fCB 1 oLen (f2 (fV 0) f0)) (fC (.int 0))))
  (sPut (fB oAdd (fV 2) (fB oMul (fB oMod (fCB 1 oInt (f2 (fCB 1 oAbs (f2 (fCB 1 oInt (f2 (fB oIx (fV 0) (fB oMod (fCB 1 oInt (f2 (fV 1) f0)) (fCB 1 oLen (f2 (fV 0) f0)))) f0)) f0)) f0)) (fC (.int 2147483629))) (fC (.int 69389)))) (put 2))
  sNil))
  (sSeq (sPut (fB oAdd (fB oMod (fCB 1 oInt (f2 (fB oAdd (fB oMul (fB oMod (fCB 1 oInt (f2 (fV 2) f0)) (fC (.int 2147483629))) (fC (.int 48271))) (fB oMul (fC (.int 40709)) (fV 1))) f0)) (fC (.int 2147483629))) (fC (.int 1))) (put 3))
  (sRet (fLst 3 (f2 (fB oIx (fLst 2 (f2 (fC (.int 0)) (f2 (fV 2) f0))) (fCB 1 oInt (f2 (fB oGe (fV 2) (fB oPow (fC (.int 10)) (fC (.int 18)))) f0))) (f2 (fV 3) (f2 (fC (.int 0)) f0))))))))
def F_Box : FT := runF 2 2 rd_Box
theorem ok_Box {P : Program} {w : World} {K : PySem.W.Frag} {mg : Str → Option Value} {base : Heap} {fn : Option (Addr × Hp × (Addr → Prop))} (T : Txt K mg) : FnOk P w K mg base CX0 1 T.fBox T.fdBox ["_law_script", "_law_k"] (spF (evT T w fn) 2 F_Box) := by
  refine fd_ok T.FBox scBox 2 rfl fun cdv A outer s H Ex hr => ?_
  unfold rd_Box
  exact (bd_cons (sd_set (fun h => ps_set (i := 2) scBox.nd rfl (.inl rfl) h) (ed_op opr_add ok_add (ed_op op_mul ok_mul ed_int (ed_V (pv 1))) ed_int))
  (bd_cons (sd_if (td_cmp op_lt ok_lt (ed_V (pv 1)) (ed_cb (fun h => pe_callB call_len (by rfl) T.m_len (by decide +kernel) h) ok_len (ad_cons (ed_V (pv 0)) ad_nil)) (nomark _))
  (bd_one (sd_set (fun h => ps_set (i := 2) scBox.nd rfl (.inl rfl) h) (ed_cb (fun h => pe_callB call_abs (by rfl) T.m_abs (by decide +kernel) h) ok_abs (ad_cons (ed_ix ix_seq ok_ix (ed_V (pv 0)) (ed_V (pv 1)) (fun _ _ => rfl)) ad_nil))))
  (bd_one (sd_if (td_cmp op_gt ok_gt (ed_cb (fun h => pe_callB call_len (by rfl) T.m_len (by decide +kernel) h) ok_len (ad_cons (ed_V (pv 0)) ad_nil)) ed_int (nomark _))
  (bd_one (sd_set (fun h => ps_set (i := 2) scBox.nd rfl (.inl rfl) h) (ed_op opr_add ok_add (ed_V (pv 2)) (ed_op op_mul ok_mul (ed_op op_mod ok_mod (ed_cb (fun h => pe_callTy call_int1 (by rfl) T.m_int (by decide +kernel) h) ok_int (ad_cons (ed_cb (fun h => pe_callB call_abs (by rfl) T.m_abs (by decide +kernel) h) ok_abs (ad_cons (ed_cb (fun h => pe_callTy call_int1 (by rfl) T.m_int (by decide +kernel) h) ok_int (ad_cons (ed_ix ix_seq ok_ix (ed_V (pv 0)) (ed_op op_mod ok_mod (ed_cb (fun h => pe_callTy call_int1 (by rfl) T.m_int (by decide +kernel) h) ok_int (ad_cons (ed_V (pv 1)) ad_nil)) (ed_cb (fun h => pe_callB call_len (by rfl) T.m_len (by decide +kernel) h) ok_len (ad_cons (ed_V (pv 0)) ad_nil))) (fun _ _ => rfl)) ad_nil)) ad_nil)) ad_nil)) ed_int) ed_int))))
  bd_nil)))
  (bd_cons (sd_set (fun h => ps_set (i := 3) scBox.nd rfl (.inl rfl) h) (ed_op opr_add ok_add (ed_op op_mod ok_mod (ed_cb (fun h => pe_callTy call_int1 (by rfl) T.m_int (by decide +kernel) h) ok_int (ad_cons (ed_op opr_add ok_add (ed_op op_mul ok_mul (ed_op op_mod ok_mod (ed_cb (fun h => pe_callTy call_int1 (by rfl) T.m_int (by decide +kernel) h) ok_int (ad_cons (ed_V (pv 2)) ad_nil)) ed_int) ed_int) (ed_op op_mul ok_mul ed_int (ed_V (pv 1)))) ad_nil)) ed_int) ed_int))
  (bd_one (sd_ret (ed_lst (ad_cons (ed_ix ix_seq ok_ix (ed_lst (ad_cons ed_int (ad_cons (ed_V (pv 2)) ad_nil))) (ed_cb (fun h => pe_callTy call_int1 (by rfl) T.m_int (by decide +kernel) h) ok_int (ad_cons (ed_cmp op_ge ok_ge (ed_V (pv 2)) (ed_op op_pow ok_pow ed_int ed_int) (nomark _)) ad_nil)) (fun _ _ => rfl)) (ad_cons (ed_V (pv 3)) (ad_cons ed_int ad_nil)))))))))
def rd_Take : SF := (sSeq (sIf (gE (fB oGt (fB oIx (fV 0) (fC (.int 0))) (fC (.int 0))))
  (sSeq (sPut (fB oMod (fCB 1 oInt (f2 (fB oIx (fV 0) (fC (.int 0))) f0)) (fV 1)) (put 2))
  (sSeq (sPut (fB oDiv (fB oIx (fV 0) (fC (.int 0))) (fV 1)) (gSubL (fV 0) (fC (.int 0))))
  (sRet (fV 2))))
  sNil)
  (sSeq (sPut (fB oAdd (fB oIx (fV 0) (fC (.int 2))) (fC (.int 1))) (gSubL (fV 0) (fC (.int 2))))
  (sSeq (sPut (fB oMod (fCB 1 oInt (f2 (fB oMul (fB oAdd (fB oIx (fV 0) (fC (.int 1))) (fB oMul (fC (.int 104701)) (fB oIx (fV 0) (fC (.int 2))))) (fC (.int 69623))) f0)) (fC (.int 2147483647))) (put 3))
  (sSeq (sPut (fB oAdd (fB oMod (fCB 1 oInt (f2 (fB oAdd (fB oMul (fV 3) (fC (.int 48271))) (fC (.int 30119))) f0)) (fC (.int 2147483629))) (fC (.int 1))) (gSubL (fV 0) (fC (.int 1))))
  (sRet (fB oMod (fCB 1 oInt (f2 (fB oDiv (fB oAdd (fB oMul (fV 3) (fC (.int 2147483647))) (fB oIx (fV 0) (fC (.int 1)))) (fC (.int 8191))) f0)) (fV 1)))))))
def F_Take : FT := runF 2 2 rd_Take
theorem ok_Take {P : Program} {w : World} {K : PySem.W.Frag} {mg : Str → Option Value} {base : Heap} {fn : Option (Addr × Hp × (Addr → Prop))} (T : Txt K mg) : FnOk P w K mg base CX0 1 T.fTake T.fdTake ["_law_box_here", "_law_many"] (spF (evT T w fn) 2 F_Take) := by
  refine fd_ok T.FTake scTake 2 rfl fun cdv A outer s H Ex hr => ?_
  unfold rd_Take
  exact (bd_cons (sd_if (td_cmp op_gt ok_gt (ed_ix ix_seq ok_ix (ed_V (pv 0)) ed_int (fun _ _ => rfl)) ed_int (nomark _))
  (bd_cons (sd_set (fun h => ps_set (i := 2) scTake.nd rfl (.inl rfl) h) (ed_op op_mod ok_mod (ed_cb (fun h => pe_callTy call_int1 (by rfl) T.m_int (by decide +kernel) h) ok_int (ad_cons (ed_ix ix_seq ok_ix (ed_V (pv 0)) ed_int (fun _ _ => rfl)) ad_nil)) (ed_V (pv 1))))
  (bd_cons (sd_asg (te := tAsg) (fun h1 h2 => ps_asg h1 h2) (ed_op op_fdiv ok_div (ed_ix ix_seq ok_ix (ed_V (pv 0)) ed_int (fun _ _ => rfl)) (ed_V (pv 1))) (gd_subL (fun h1 h2 => pg_sub h1 h2 set_list) (ed_V (pv 0)) ed_int))
  (bd_one (sd_ret (ed_V (pv 2))))))
  bd_nil)
  (bd_cons (sd_asg (te := tAsg) (fun h1 h2 => ps_asg h1 h2) (ed_op opr_add ok_add (ed_ix ix_seq ok_ix (ed_V (pv 0)) ed_int (fun _ _ => rfl)) ed_int) (gd_subL (fun h1 h2 => pg_sub h1 h2 set_list) (ed_V (pv 0)) ed_int))
  (bd_cons (sd_set (fun h => ps_set (i := 3) scTake.nd rfl (.inl rfl) h) (ed_op op_mod ok_mod (ed_cb (fun h => pe_callTy call_int1 (by rfl) T.m_int (by decide +kernel) h) ok_int (ad_cons (ed_op op_mul ok_mul (ed_op opr_add ok_add (ed_ix ix_seq ok_ix (ed_V (pv 0)) ed_int (fun _ _ => rfl)) (ed_op op_mul ok_mul ed_int (ed_ix ix_seq ok_ix (ed_V (pv 0)) ed_int (fun _ _ => rfl)))) ed_int) ad_nil)) ed_int))
  (bd_cons (sd_asg (te := tAsg) (fun h1 h2 => ps_asg h1 h2) (ed_op opr_add ok_add (ed_op op_mod ok_mod (ed_cb (fun h => pe_callTy call_int1 (by rfl) T.m_int (by decide +kernel) h) ok_int (ad_cons (ed_op opr_add ok_add (ed_op op_mul ok_mul (ed_V (pv 3)) ed_int) ed_int) ad_nil)) ed_int) ed_int) (gd_subL (fun h1 h2 => pg_sub h1 h2 set_list) (ed_V (pv 0)) ed_int))
  (bd_one (sd_ret (ed_op op_mod ok_mod (ed_cb (fun h => pe_callTy call_int1 (by rfl) T.m_int (by decide +kernel) h) ok_int (ad_cons (ed_op op_fdiv ok_div (ed_op opr_add ok_add (ed_op op_mul ok_mul (ed_V (pv 3)) ed_int) (ed_ix ix_seq ok_ix (ed_V (pv 0)) ed_int (fun _ _ => rfl))) ed_int) ad_nil)) (ed_V (pv 1)))))))))
def rd_IsIntegerFrom : SF := (sRet (fAnd (fIsi "int" (fV 0)) (fAnd (fNot (fIsi "bool" (fV 0))) (fB oGe (fV 0) (fV 1)))))
def F_IsIntegerFrom : FT := runF 2 0 rd_IsIntegerFrom
theorem ok_IsIntegerFrom {P : Program} {w : World} {K : PySem.W.Frag} {mg : Str → Option Value} {base : Heap} {fn : Option (Addr × Hp × (Addr → Prop))} (T : Txt K mg) : FnOk P w K mg base CX0 1 T.fIsIntegerFrom T.fdIsIntegerFrom ["value", "least"] (spF (evT T w fn) 2 F_IsIntegerFrom) := by
  refine fd_ok T.FIsIntegerFrom scIsIntegerFrom 0 rfl fun cdv A outer s H Ex hr => ?_
  unfold rd_IsIntegerFrom
  exact (bd_one (sd_ret (ed_and (ed_isi (fun h => pe_callB call_isi (by rfl) T.m_isinstance (by decide +kernel) h) (ed_V (pv 0)) (pe_bltn (v := .ty "int") (by rfl) T.m_int (by decide +kernel) rfl)) (ed_and (ed_not (ed_isi (fun h => pe_callB call_isi (by rfl) T.m_isinstance (by decide +kernel) h) (ed_V (pv 0)) (pe_bltn (v := .ty "bool") (by rfl) T.m_bool (by decide +kernel) rfl))) (ed_one (ed_cmp op_ge ok_ge (ed_V (pv 0)) (ed_V (pv 1)) (nomark _)))))))
def rd_IsNumber : SF := (sRet (fCall 2 F_IsIntegerFrom [] (f2 (fFrz (fV 0)) (f2 (fC (.int 0)) f0))))
def F_IsNumber : FT := runF 1 0 rd_IsNumber
theorem ok_IsNumber {P : Program} {w : World} {K : PySem.W.Frag} {mg : Str → Option Value} {base : Heap} {fn : Option (Addr × Hp × (Addr → Prop))} (T : Txt K mg) : FnOk P w K mg base CX0 2 T.fIsNumber T.fdIsNumber ["value"] (spF (evT T w fn) 1 F_IsNumber) := by
  have GIsIntegerFrom := ok_IsIntegerFrom (P := P) (w := w) (base := base) (fn := fn) T
  refine fd_ok T.FIsNumber scIsNumber 0 rfl fun cdv A outer s H Ex hr => ?_
  unfold rd_IsNumber
  exact (bd_one (sd_ret (ed_call (fun h => pe_call GIsIntegerFrom (hr.mono (by decide)) (by rfl) T.gIsIntegerFrom T.FIsIntegerFrom.kp (bIsIntegerFrom T) .nil pass0 h) .nil rfl (ad_cons (ed_frz (ed_V (pv 0))) (ad_cons ed_int ad_nil)))))
def rd_MeasureInit : SF := (sSeq (sIf (gNot (gE (fCall 1 F_IsNumber [] (f2 (fFrz (fV 1)) f0))))
  sNo
  sNil)
  (sSeq (sIf (gNot (gE (fCall 2 F_IsIntegerFrom [] (f2 (fFrz (fV 2)) (f2 (fFrz (fCB 2 oMax2 (f2 (fV 1) (f2 (fC (.int 1)) f0)))) f0)))))
  sNo
  sNil)
  (sSeq (sSetF ["Measure"] "most" (fV 1) (fV 0))
  (sSetF ["Measure"] "span" (fV 2) (fV 0)))))
def F_MeasureInit : FT := runF 3 0 rd_MeasureInit
theorem ok_MeasureInit {P : Program} {w : World} {K : PySem.W.Frag} {mg : Str → Option Value} {base : Heap} {fn : Option (Addr × Hp × (Addr → Prop))} (T : Txt K mg) : FnOk P w K mg base CX0 3 T.fMeasureInit T.fdMeasureInit ["self", "most", "span"] (spF (evT T w fn) 3 F_MeasureInit) := by
  have GIsNumber := ok_IsNumber (P := P) (w := w) (base := base) (fn := fn) T
  have GIsIntegerFrom := ok_IsIntegerFrom (P := P) (w := w) (base := base) (fn := fn) T
  refine fd_ok T.FMeasureInit scMeasureInit 0 rfl fun cdv A outer s H Ex hr => ?_
  unfold rd_MeasureInit
  exact (bd_cons (sd_if (td_not (td_val (ed_call (fun h => pe_call GIsNumber (hr.mono (by decide)) (by rfl) T.gIsNumber T.FIsNumber.kp (bIsNumber T) .nil pass0 h) .nil rfl (ad_cons (ed_frz (ed_V (pv 1))) ad_nil)) (fun h => pt_val h)))
  (bd_one sd_never)
  bd_nil)
  (bd_cons (sd_if (td_not (td_val (ed_call (fun h => pe_call GIsIntegerFrom (hr.mono (by decide)) (by rfl) T.gIsIntegerFrom T.FIsIntegerFrom.kp (bIsIntegerFrom T) .nil pass0 h) .nil rfl (ad_cons (ed_frz (ed_V (pv 2))) (ad_cons (ed_frz (ed_cb (fun h => pe_callB (call_max2 rfl) (by rfl) T.m_max (by decide +kernel) h) ok_max2 (ad_cons (ed_V (pv 1)) (ad_cons ed_int ad_nil)))) ad_nil))) (fun h => pt_val h)))
  (bd_one sd_never)
  bd_nil)
  (bd_cons (sd_setF (na_most T) (ed_V (pv 1)) (ed_V (pv 0)))
  (bd_one (sd_setF (na_span T) (ed_V (pv 2)) (ed_V (pv 0)))))))
def rd_IsSequence : SF := (sRet (fIsi2 "list" "tuple" (fV 0)))
def F_IsSequence : FT := runF 1 0 rd_IsSequence
theorem ok_IsSequence {P : Program} {w : World} {K : PySem.W.Frag} {mg : Str → Option Value} {base : Heap} {fn : Option (Addr × Hp × (Addr → Prop))} (T : Txt K mg) : FnOk P w K mg base CX0 1 T.fIsSequence T.fdIsSequence ["value"] (spF (evT T w fn) 1 F_IsSequence) := by
  refine fd_ok T.FIsSequence scIsSequence 0 rfl fun cdv A outer s H Ex hr => ?_
  unfold rd_IsSequence
  exact (bd_one (sd_ret (ed_isi2 (fun h => pe_callB call_isiT (by rfl) T.m_isinstance (by decide +kernel) h) (ed_V (pv 0)) (pe_bltn (v := .ty "list") (by rfl) T.m_list (by decide +kernel) rfl) (pe_bltn (v := .ty "tuple") (by rfl) T.m_tuple (by decide +kernel) rfl))))
end L37
set_option Elab.async false
set_option linter.all false
set_option maxRecDepth 100000
set_option maxHeartbeats 4000000
namespace L37
open PySem PySem.Spec PyProof.Rows L2 Rw Fn LamX
def rd_IsName : SF := (sRet (fAnd (fIsi "str" (fV 0)) (fAnd (fCh (fun i j => decide (i ≤ j)) (fun i j => decide (i ≤ j)) (fC (.int 1)) (fCB 1 oLen (f2 (fV 0) f0)) (fC (.int 4))) (fCB 1 oAll (f2 (fLc (fSq (fV 0)) 1 [1] (put 1) gYes (fB (oInS false) (fV 1) (fC (.str "abcdefghijklmnopqrstuvwxyz")))) f0)))))
def F_IsName : FT := runF 1 1 rd_IsName
theorem ok_IsName {P : Program} {w : World} {K : PySem.W.Frag} {mg : Str → Option Value} {base : Heap} {fn : Option (Addr × Hp × (Addr → Prop))} (T : Txt K mg) : FnOk P w K mg base CX0 1 T.fIsName T.fdIsName ["value"] (spF (evT T w fn) 1 F_IsName) := by
  refine fd_ok T.FIsName scIsName 1 rfl fun cdv A outer s H Ex hr => ?_
  unfold rd_IsName
  exact (bd_one (sd_ret (ed_and (ed_isi (fun h => pe_callB call_isi (by rfl) T.m_isinstance (by decide +kernel) h) (ed_V (pv 0)) (pe_bltn (v := .ty "str") (by rfl) T.m_str (by decide +kernel) rfl)) (ed_and (ed_chain (o1 := fun i j => decide (i ≤ j)) (o2 := fun i j => decide (i ≤ j)) (fun h1 h2 h3 => pe_chain op_le op_le h1 h2 h3) ed_int (ed_cb (fun h => pe_callB call_len (by rfl) T.m_len (by decide +kernel) h) ok_len (ad_cons (ed_V (pv 0)) ad_nil)) ed_int) (ed_one (ed_cb (fun h => pe_callB (cr_all rfl) (by rfl) T.m_all (by decide +kernel) h) ok_all (ad_cons (ed_lc (own := [("letter", 1)]) rfl scIsName.nd (id_seq (ed_V (pv 0))) (blkOk_by (own := [("letter", 1)]) (N := NIsName) (sc := defScope sIsName) (by decide +kernel)) (fun _ _ _ _ _ => (gd_name (pg_name (i := 1) scIsName.nd rfl (.inl rfl)))) (fun _ _ _ _ _ => tsd_nil) (fun _ _ _ _ _ => (ed_cmp op_in_sign ok_inS (ed_V (pv 1)) (ed_C (pe_glob (v := .str "abcdefghijklmnopqrstuvwxyz") (by rfl) T.gLETTERS ⟨_, rfl⟩) (fun _ _ => .str _)) (by rfl))) (by decide)) ad_nil)))))))
def rd_IsMatch : SF := (sSeq (sIf (gOr (gNot (gE (fIsi "tuple" (fV 0)))) (gE (fB (oEqD true) (fCB 1 oLen (f2 (fV 0) f0)) (fC (.int 3)))))
  (sRet (fC (.bl false)))
  sNil)
  (sRet (fAnd (fCall 1 F_IsNumber [] (f2 (fFrz (fB oIx (fV 0) (fC (.int 0)))) f0)) (fAnd (fB oLt (fB oIx (fV 0) (fC (.int 0))) (fV 1)) (fAnd (fCall 1 F_IsName [] (f2 (fFrz (fB oIx (fV 0) (fC (.int 1)))) f0)) (fCall 1 F_IsName [] (f2 (fFrz (fB oIx (fV 0) (fC (.int 2)))) f0)))))))
def F_IsMatch : FT := runF 2 0 rd_IsMatch
theorem ok_IsMatch {P : Program} {w : World} {K : PySem.W.Frag} {mg : Str → Option Value} {base : Heap} {fn : Option (Addr × Hp × (Addr → Prop))} (T : Txt K mg) : FnOk P w K mg base CX0 3 T.fIsMatch T.fdIsMatch ["value", "days"] (spF (evT T w fn) 2 F_IsMatch) := by
  have GIsNumber := ok_IsNumber (P := P) (w := w) (base := base) (fn := fn) T
  have GIsName := ok_IsName (P := P) (w := w) (base := base) (fn := fn) T
  refine fd_ok T.FIsMatch scIsMatch 0 rfl fun cdv A outer s H Ex hr => ?_
  unfold rd_IsMatch
  exact (bd_cons (sd_if (WD.td (wd_or (td_not (td_val (ed_isi (fun h => pe_callB call_isi (by rfl) T.m_isinstance (by decide +kernel) h) (ed_V (pv 0)) (pe_bltn (v := .ty "tuple") (by rfl) T.m_tuple (by decide +kernel) rfl)) (fun h => pt_val h))) (wd_or1 (td_cmp (op_neD hr.units) ok_neD (ed_cb (fun h => pe_callB call_len (by rfl) T.m_len (by decide +kernel) h) ok_len (ad_cons (ed_V (pv 0)) ad_nil)) ed_int (nomark _)))))
  (bd_one (sd_ret ed_bl))
  bd_nil)
  (bd_one (sd_ret (ed_and (ed_call (fun h => pe_call GIsNumber (hr.mono (by decide)) (by rfl) T.gIsNumber T.FIsNumber.kp (bIsNumber T) .nil pass0 h) .nil rfl (ad_cons (ed_frz (ed_ix ix_seq ok_ix (ed_V (pv 0)) ed_int (fun _ _ => rfl))) ad_nil)) (ed_and (ed_cmp op_lt ok_lt (ed_ix ix_seq ok_ix (ed_V (pv 0)) ed_int (fun _ _ => rfl)) (ed_V (pv 1)) (nomark _)) (ed_and (ed_call (fun h => pe_call GIsName (hr.mono (by decide)) (by rfl) T.gIsName T.FIsName.kp (bIsName T) .nil pass0 h) .nil rfl (ad_cons (ed_frz (ed_ix ix_seq ok_ix (ed_V (pv 0)) ed_int (fun _ _ => rfl))) ad_nil)) (ed_one (ed_call (fun h => pe_call GIsName (hr.mono (by decide)) (by rfl) T.gIsName T.FIsName.kp (bIsName T) .nil pass0 h) .nil rfl (ad_cons (ed_frz (ed_ix ix_seq ok_ix (ed_V (pv 0)) ed_int (fun _ _ => rfl))) ad_nil)))))))))
def rd_AreMatches : SF := (sSeq (sIf (gOr (gNot (gE (fCall 1 F_IsSequence [] (f2 (fFrz (fV 0)) f0)))) (gNot (gE (fCB 1 oAll (f2 (fLc (fSq (fV 0)) 1 [2] (put 2) gYes (fCall 2 F_IsMatch [] (f2 (fFrz (fV 2)) (f2 (fFrz (fV 1)) f0)))) f0)))))
  (sRet (fC (.bl false)))
  sNil)
  (sSeq (sPut (fLc2 (fSq (fV 0)) 1 [4, 5, 6, 7] (f2 (un 3) (f2 (put 4) (f2 (put 5) (f2 (put 6) some)))) gYes (fSq (fTup 2 (f2 (fV 5) (f2 (fV 6) f0)))) 1 [7] (put 7) gYes (fTup 2 (f2 (fV 4) (f2 (fV 7) f0)))) (put 3))
  (sRet (fB (oEqD false) (fLenSet (fV 3)) (fCB 1 oLen (f2 (fV 3) f0))))))
def F_AreMatches : FT := runF 2 6 rd_AreMatches
theorem ok_AreMatches {P : Program} {w : World} {K : PySem.W.Frag} {mg : Str → Option Value} {base : Heap} {fn : Option (Addr × Hp × (Addr → Prop))} (T : Txt K mg) : FnOk P w K mg base CX0 4 T.fAreMatches T.fdAreMatches ["value", "days"] (spF (evT T w fn) 2 F_AreMatches) := by
  have GIsSequence := ok_IsSequence (P := P) (w := w) (base := base) (fn := fn) T
  have GIsMatch := ok_IsMatch (P := P) (w := w) (base := base) (fn := fn) T
  refine fd_ok T.FAreMatches scAreMatches 6 rfl fun cdv A outer s H Ex hr => ?_
  unfold rd_AreMatches
  exact (bd_cons (sd_if (WD.td (wd_or (td_not (td_val (ed_call (fun h => pe_call GIsSequence (hr.mono (by decide)) (by rfl) T.gIsSequence T.FIsSequence.kp (bIsSequence T) .nil pass0 h) .nil rfl (ad_cons (ed_frz (ed_V (pv 0))) ad_nil)) (fun h => pt_val h))) (wd_or1 (td_not (td_val (ed_cb (fun h => pe_callB (cr_all rfl) (by rfl) T.m_all (by decide +kernel) h) ok_all (ad_cons (ed_lc (own := [("thing", 2)]) rfl scAreMatches.nd (id_seq (ed_V (pv 0))) (blkOk_by (own := [("thing", 2)]) (N := NAreMatches) (sc := defScope sAreMatches) (by decide +kernel)) (fun _ _ _ _ _ => (gd_name (pg_name (i := 2) scAreMatches.nd rfl (.inl rfl)))) (fun _ _ _ _ _ => tsd_nil) (fun _ _ _ _ _ => (ed_call (fun h => pe_call GIsMatch (hr.mono (by decide)) (by rfl) T.gIsMatch T.FIsMatch.kp (bIsMatch T) .nil pass0 h) .nil rfl (ad_cons (ed_frz (ed_V (pv 2))) (ad_cons (ed_frz (ed_V (pv 1))) ad_nil)))) (by decide)) ad_nil)) (fun h => pt_val h))))))
  (bd_one (sd_ret ed_bl))
  bd_nil)
  (bd_cons (sd_setLc2 (i := 3) (own := [("day", 4), ("one", 5), ("other", 6), ("side", 7)]) (vs1 := [7]) rfl scAreMatches.nd rfl rfl (sw_true rfl rfl rfl (by decide +kernel)) (id_seq (ed_V (pv 0))) (blkOk_by (own := [("day", 4), ("one", 5), ("other", 6), ("side", 7)]) (N := NAreMatches) (sc := defScope sAreMatches) (by decide +kernel)) (by decide) (fun _ _ _ _ _ => (gd_tup rfl (gsd_cons (gd_name (pg_name (i := 4) scAreMatches.nd rfl (.inl rfl))) (gsd_cons (gd_name (pg_name (i := 5) scAreMatches.nd rfl (.inl rfl))) (gsd_cons (gd_name (pg_name (i := 6) scAreMatches.nd rfl (.inl rfl))) gsd_nil))))) (fun _ _ _ _ _ => tsd_nil) (fun _ _ _ _ _ => (id_seq (ed_tup (ad_cons (ed_V (pv 5)) (ad_cons (ed_V (pv 6)) ad_nil))))) (fun _ _ _ _ _ => (gd_name (pg_name (i := 7) scAreMatches.nd rfl (.inl rfl)))) (fun _ _ _ _ _ => tsd_nil) (fun _ _ _ _ _ => (ed_tup (ad_cons (ed_V (pv 4)) (ad_cons (ed_V (pv 7)) ad_nil)))) (by decide) (by decide))
  (bd_one (sd_ret (ed_cmp (op_eqD hr.units) ok_eqD (ed_lenSet (fun h => pe_lenM rfl hr.units (by rfl) T.m_len (by rfl) T.m_set h) (ed_V (pv 3))) (ed_cb (fun h => pe_callB call_len (by rfl) T.m_len (by decide +kernel) h) ok_len (ad_cons (ed_V (pv 3)) ad_nil)) (nomark _))))))
def rd_WeekInit : SF := (sSeq (sIf (gNot (gE (fCall 2 F_IsIntegerFrom [] (f2 (fFrz (fV 1)) (f2 (fC (.int 1)) f0)))))
  sNo
  sNil)
  (sSeq (sIf (gNot (gE (fCall 2 F_AreMatches [] (f2 (fFrz (fV 2)) (f2 (fFrz (fV 1)) f0)))))
  sNo
  sNil)
  (sSeq (sSetF ["Week"] "days" (fV 1) (fV 0))
  (sSetF ["Week"] "matches" (fCB 1 oTup (f2 (fV 2) f0)) (fV 0)))))
def F_WeekInit : FT := runF 3 0 rd_WeekInit
theorem ok_WeekInit {P : Program} {w : World} {K : PySem.W.Frag} {mg : Str → Option Value} {base : Heap} {fn : Option (Addr × Hp × (Addr → Prop))} (T : Txt K mg) : FnOk P w K mg base CX0 5 T.fWeekInit T.fdWeekInit ["self", "days", "matches"] (spF (evT T w fn) 3 F_WeekInit) := by
  have GIsIntegerFrom := ok_IsIntegerFrom (P := P) (w := w) (base := base) (fn := fn) T
  have GAreMatches := ok_AreMatches (P := P) (w := w) (base := base) (fn := fn) T
  refine fd_ok T.FWeekInit scWeekInit 0 rfl fun cdv A outer s H Ex hr => ?_
  unfold rd_WeekInit
  exact (bd_cons (sd_if (td_not (td_val (ed_call (fun h => pe_call GIsIntegerFrom (hr.mono (by decide)) (by rfl) T.gIsIntegerFrom T.FIsIntegerFrom.kp (bIsIntegerFrom T) .nil pass0 h) .nil rfl (ad_cons (ed_frz (ed_V (pv 1))) (ad_cons ed_int ad_nil))) (fun h => pt_val h)))
  (bd_one sd_never)
  bd_nil)
  (bd_cons (sd_if (td_not (td_val (ed_call (fun h => pe_call GAreMatches (hr.mono (by decide)) (by rfl) T.gAreMatches T.FAreMatches.kp (bAreMatches T) .nil pass0 h) .nil rfl (ad_cons (ed_frz (ed_V (pv 2))) (ad_cons (ed_frz (ed_V (pv 1))) ad_nil))) (fun h => pt_val h)))
  (bd_one sd_never)
  bd_nil)
  (bd_cons (sd_setF (na_days T) (ed_V (pv 1)) (ed_V (pv 0)))
  (bd_one (sd_setF (na_matches T) (ed_cb (fun h => pe_callTy call_tuple_of (by rfl) T.m_tuple (by decide +kernel) h) ok_tup (ad_cons (ed_V (pv 2)) ad_nil)) (ed_V (pv 0)))))))
def rd_RuleInit : SF := (sSeq (sIf (gOr (gNot (gE (fCall 2 F_IsIntegerFrom [] (f2 (fFrz (fV 1)) (f2 (fC (.int 1)) f0))))) (gE (fB oGt (fV 1) (fC (.int 2)))))
  sNo
  sNil)
  (sSeq (sIf (gNot (gE (fCall 2 F_IsIntegerFrom [] (f2 (fFrz (fV 2)) (f2 (fC (.int 1)) f0)))))
  sNo
  sNil)
  (sSeq (sIf (gOr (gNot (gE (fCall 1 F_IsSequence [] (f2 (fFrz (fV 3)) f0)))) (gNot (gE (fCB 1 oAll (f2 (fLc (fSq (fV 3)) 1 [5] (put 5) gYes (fCall 1 F_IsNumber [] (f2 (fFrz (fV 5)) f0))) f0)))))
  sNo
  sNil)
  (sSeq (sIf (gE (fB (oIn true) (fV 4) (fC tORDERS)))
  sNo
  sNil)
  (sSeq (sSetF ["Rule"] "gap" (fV 1) (fV 0))
  (sSeq (sSetF ["Rule"] "window" (fV 2) (fV 0))
  (sSeq (sSetF ["Rule"] "let" (fCB 1 oTup (f2 (fSortSet (fV 3)) f0)) (fV 0))
  (sSetF ["Rule"] "order" (fV 4) (fV 0)))))))))
def F_RuleInit : FT := runF 5 1 rd_RuleInit
theorem ok_RuleInit {P : Program} {w : World} {K : PySem.W.Frag} {mg : Str → Option Value} {base : Heap} {fn : Option (Addr × Hp × (Addr → Prop))} (T : Txt K mg) : FnOk P w K mg base CX0 3 T.fRuleInit T.fdRuleInit ["self", "gap", "window", "let", "order"] (spF (evT T w fn) 5 F_RuleInit) := by
  have GIsIntegerFrom := ok_IsIntegerFrom (P := P) (w := w) (base := base) (fn := fn) T
  have GIsSequence := ok_IsSequence (P := P) (w := w) (base := base) (fn := fn) T
  have GIsNumber := ok_IsNumber (P := P) (w := w) (base := base) (fn := fn) T
  refine fdd_ok T.FRuleInit scRuleInit 1 rfl fun cdv A outer s H Ex hr => ?_
  unfold rd_RuleInit
  exact (bd_cons (sd_if (WD.td (wd_or (td_not (td_val (ed_call (fun h => pe_call GIsIntegerFrom (hr.mono (by decide)) (by rfl) T.gIsIntegerFrom T.FIsIntegerFrom.kp (bIsIntegerFrom T) .nil pass0 h) .nil rfl (ad_cons (ed_frz (ed_V (pv 1))) (ad_cons ed_int ad_nil))) (fun h => pt_val h))) (wd_or1 (td_cmp op_gt ok_gt (ed_V (pv 1)) ed_int (nomark _)))))
  (bd_one sd_never)
  bd_nil)
  (bd_cons (sd_if (td_not (td_val (ed_call (fun h => pe_call GIsIntegerFrom (hr.mono (by decide)) (by rfl) T.gIsIntegerFrom T.FIsIntegerFrom.kp (bIsIntegerFrom T) .nil pass0 h) .nil rfl (ad_cons (ed_frz (ed_V (pv 2))) (ad_cons ed_int ad_nil))) (fun h => pt_val h)))
  (bd_one sd_never)
  bd_nil)
  (bd_cons (sd_if (WD.td (wd_or (td_not (td_val (ed_call (fun h => pe_call GIsSequence (hr.mono (by decide)) (by rfl) T.gIsSequence T.FIsSequence.kp (bIsSequence T) .nil pass0 h) .nil rfl (ad_cons (ed_frz (ed_V (pv 3))) ad_nil)) (fun h => pt_val h))) (wd_or1 (td_not (td_val (ed_cb (fun h => pe_callB (cr_all rfl) (by rfl) T.m_all (by decide +kernel) h) ok_all (ad_cons (ed_lc (own := [("day", 5)]) rfl scRuleInit.nd (id_seq (ed_V (pv 3))) (blkOk_by (own := [("day", 5)]) (N := NRuleInit) (sc := defScope sRuleInit) (by decide +kernel)) (fun _ _ _ _ _ => (gd_name (pg_name (i := 5) scRuleInit.nd rfl (.inl rfl)))) (fun _ _ _ _ _ => tsd_nil) (fun _ _ _ _ _ => (ed_call (fun h => pe_call GIsNumber (hr.mono (by decide)) (by rfl) T.gIsNumber T.FIsNumber.kp (bIsNumber T) .nil pass0 h) .nil rfl (ad_cons (ed_frz (ed_V (pv 5))) ad_nil))) (by decide)) ad_nil)) (fun h => pt_val h))))))
  (bd_one sd_never)
  bd_nil)
  (bd_cons (sd_if (td_cmp (opr_notIn (hu65 hr)) (ok_in true) (ed_V (pv 4)) (ed_C (pe_glob (v := .ref T.aORDERS) (by rfl) T.gORDERS rfl) (rep_ORDERS T)) (by rfl))
  (bd_one sd_never)
  bd_nil)
  (bd_cons (sd_setF (na_gap T) (ed_V (pv 1)) (ed_V (pv 0)))
  (bd_cons (sd_setF (na_window T) (ed_V (pv 2)) (ed_V (pv 0)))
  (bd_cons (sd_setF (na_let T) (ed_cb (fun h => pe_callTy call_tuple_of (by rfl) T.m_tuple (by decide +kernel) h) ok_tup (ad_cons (ed_sortSet (fun h => pe_callB (cr_sortedSet rfl) (by rfl) T.m_sorted (by decide +kernel) h) (fun h => pe_callTy (call_setI rfl) (by rfl) T.m_set (by decide +kernel) h) (ed_V (pv 3))) ad_nil)) (ed_V (pv 0)))
  (bd_one (sd_setF (na_order T) (ed_V (pv 4)) (ed_V (pv 0)))))))))))
def rd_FirstRain : SF := (sRet (fB oMulT (fTup 1 (f2 (fC (.bl false)) f0)) (fB oSub (fFld ["Measure"] "span" (fV 0)) (fC (.int 1)))))
def F_FirstRain : FT := runF 1 0 rd_FirstRain
theorem ok_FirstRain {P : Program} {w : World} {K : PySem.W.Frag} {mg : Str → Option Value} {base : Heap} {fn : Option (Addr × Hp × (Addr → Prop))} (T : Txt K mg) : FnOk P w K mg base CX0 1 T.fFirstRain T.fdFirstRain ["measure"] (spF (evT T w fn) 1 F_FirstRain) := by
  refine fd_ok T.FFirstRain scFirstRain 0 rfl fun cdv A outer s H Ex hr => ?_
  unfold rd_FirstRain
  exact (bd_one (sd_ret (ed_op op_repS ok_mulT (ed_tup (ad_cons ed_bl ad_nil)) (ed_op op_sub ok_sub (ed_fld (na_span T) (ed_V (pv 0))) ed_int))))
def rd_MarksTo : SF := (sSeq (sPut (fLst 0 f0) (put 2))
  (sSeq (sWh (gE (fB (oIsN true) (fB oIxDic (fV 0) (fV 1)) (fC .non)))
  (sSeq (sPut (fB oIxDic (fV 0) (fV 1)) (f2 (un 2) (f2 (put 1) (f2 (put 3) some))))
  (sDo (fLm 1 lApp (fV 2) (f2 (fV 3) f0)))) 100000)
  (sRet (fRv (fV 2)))))
def F_MarksTo : FT := runF 2 2 rd_MarksTo
theorem ok_MarksTo {P : Program} {w : World} {K : PySem.W.Frag} {mg : Str → Option Value} {base : Heap} {fn : Option (Addr × Hp × (Addr → Prop))} (T : Txt K mg) : FnOk P w K mg base CX0 1 T.fMarksTo T.fdMarksTo ["came", "state"] (spF (evT T w fn) 2 F_MarksTo) := by
  refine fd_ok T.FMarksTo scMarksTo 2 rfl fun cdv A outer s H Ex hr => ?_
  unfold rd_MarksTo
  exact (bd_cons (sd_set (fun h => ps_set (i := 2) scMarksTo.nd rfl (.inl rfl) h) (ed_lst ad_nil))
  (bd_cons (sd_while 100000 (fun h1 h2 => ps_while PassesOwn.never h1 h2) (td_cmp op_notN ok_notN (ed_ix (ix_dic (hu65 hr)) ok_ixDic (ed_V (pv 0)) (ed_V (pv 1)) (fun _ _ => rfl)) ed_non (nomark _))
  (bd_cons (sd_asg (te := tAsg) (fun h1 h2 => ps_asg h1 h2) (ed_ix (ix_dic (hu65 hr)) ok_ixDic (ed_V (pv 0)) (ed_V (pv 1)) (fun _ _ => rfl)) (gd_tup rfl (gsd_cons (gd_name (pg_name (i := 1) scMarksTo.nd rfl (.inl rfl))) (gsd_cons (gd_name (pg_name (i := 3) scMarksTo.nd rfl (.inl rfl))) gsd_nil))))
  (bd_one (sd_do (ed_lm (fun h1 h2 => pe_bm PySem.F.plainAttrs_list PySem.F.slot_list_append PySem.F.type_list_append mt_append h1 h2) okl_app (ed_V (pv 2)) (ad_cons (ed_V (pv 3)) ad_nil))))))
  (bd_one (sd_ret (ed_rev (ed_V (pv 2)))))))
end L37
set_option Elab.async false
set_option linter.all false
set_option maxRecDepth 100000
set_option maxHeartbeats 4000000
namespace L37
open PySem PySem.Spec PyProof.Rows L2 Rw Fn LamX
def rd_Search (G : FT) : SF := (sSeq (sPut (fDisp1 (fV 0) (fC .non)) (put 2))
  (sSeq (sPut (fLst 1 (f2 (fV 0) f0)) (put 3))
  (sSeq (sWh (gTr (fV 3))
  (sSeq (sPut (fLst 0 f0) (put 4))
  (sSeq (sFor (fSq (fV 3)) 1 (put 5)
  (sFor (fSq (fAct 1 G (fV 5))) 1 (f2 (un 3) (f2 (put 6) (f2 (put 7) (f2 (put 8) some))))
  (sSeq (sIf (gE (fV 7))
  (sRet (fTup 2 (f2 (fV 2) (f2 (fTupS (sStar (fCall 2 F_MarksTo [] (f2 (fV 2) (f2 (fFrz (fV 5)) f0))) (s1 (fV 6) s0))) f0))))
  sNil)
  (sIf (gE (fB (oInDic true) (fV 8) (fV 2)))
  (sSeq (sPut (fTup 2 (f2 (fV 5) (f2 (fV 6) f0))) (gDput (fV 2) (fV 8)))
  (sDo (fLm 1 lApp (fV 4) (f2 (fV 8) f0))))
  sNil))))
  (sPut (fV 4) (put 3)))) 100000)
  (sRet (fTup 2 (f2 (fV 2) (f2 (fC .non) f0)))))))
theorem bd_Search {P : Program} {w : World} {K : PySem.W.Frag} {mg : Str → Option Value} {base : Heap} {cdv : Value} {A : Around} {ou : List Env} {s0 : Shared} {H : Hp} {Ex : XK} {fn : Option (Addr × Hp × (Addr → Prop))} (T : Txt K mg) (G : FT) (hr : Room 1 (A.deeper (envOfC "search" (defScope sSearch) s0.heap.objs.size T.fSearch cdv)))
    (act : ∀ {e : Expr} {f1 : EF} {p1 p2 : Pos}, ED (cxOf CX0 P w K mg base NSearch "search" (defScope sSearch) T.fSearch cdv A ou s0 H Ex).nox (evT T w fn) e f1 → starEach [e] (cxOf CX0 P w K mg base NSearch "search" (defScope sSearch) T.fSearch cdv A ou s0 H Ex).nox.env = (false, eval e (cxOf CX0 P w K mg base NSearch "search" (defScope sSearch) T.fSearch cdv A ou s0 H Ex).nox.env) :: starEach [] (cxOf CX0 P w K mg base NSearch "search" (defScope sSearch) T.fSearch cdv A ou s0 H Ex).nox.env → ED (cxOf CX0 P w K mg base NSearch "search" (defScope sSearch) T.fSearch cdv A ou s0 H Ex).nox (evT T w fn) (.Call (.Name "steps_of" p1) [e] [] p2) (fAct 1 G f1)) :
    BD (cxOf CX0 P w K mg base NSearch "search" (defScope sSearch) T.fSearch cdv A ou s0 H Ex).nox (evT T w fn) (defBody sSearch) (rd_Search G) := by
  have GMarksTo := ok_MarksTo (P := P) (w := w) (base := base) (fn := fn) T
  unfold rd_Search
  exact (bd_cons (sd_set (fun h => ps_set (i := 2) scSearch.nd rfl (.inl rfl) h) (ed_disp1 (hu65 hr) (ed_V (pv 0)) ed_non))
  (bd_cons (sd_set (fun h => ps_set (i := 3) scSearch.nd rfl (.inl rfl) h) (ed_lst (ad_cons (ed_V (pv 0)) ad_nil)))
  (bd_cons (sd_while 100000 (fun h1 h2 => ps_while PassesOwn.never h1 h2) (td_tr (ed_V (pv 3)) (fun h => pt_truth h (by intro _; rfl)))
  (bd_cons (sd_set (fun h => ps_set (i := 4) scSearch.nd rfl (.inl rfl) h) (ed_lst ad_nil))
  (bd_cons (sd_for (fun h1 h2 h3 => ps_for PassesOwn.never rfl h1 h2 h3) (id_seq (ed_V (pv 3))) (gd_name (pg_name (i := 5) scSearch.nd rfl (.inl rfl)))
  (bd_one (sd_for (fun h1 h2 h3 => ps_for PassesOwn.never rfl h1 h2 h3) (id_seq (act (ed_V (pv 5)) rfl)) (gd_tup rfl (gsd_cons (gd_name (pg_name (i := 6) scSearch.nd rfl (.inl rfl))) (gsd_cons (gd_name (pg_name (i := 7) scSearch.nd rfl (.inl rfl))) (gsd_cons (gd_name (pg_name (i := 8) scSearch.nd rfl (.inl rfl))) gsd_nil))))
  (bd_cons (sd_if (td_val (ed_V (pv 7)) (fun h => pt_val h))
  (bd_one (sd_ret (ed_tup (ad_cons (ed_V (pv 2)) (ad_cons (ed_tupS (asd_star (ed_call (fun h => pe_call GMarksTo (hr.mono (by decide)) (by rfl) T.gMarksTo T.FMarksTo.kp (bMarksTo T) .nil pass0 h) .nil rfl (ad_cons (ed_V (pv 2)) (ad_cons (ed_frz (ed_V (pv 5))) ad_nil))) (asd_cons (ed_V (pv 6)) asd_nil))) ad_nil)))))
  bd_nil)
  (bd_one (sd_if (td_cmp (op_notInDic (hu65 hr)) (ok_inDic true) (ed_V (pv 8)) (ed_V (pv 2)) (by rfl))
  (bd_cons (sd_asg (te := tAsg) (fun h1 h2 => ps_asg h1 h2) (ed_tup (ad_cons (ed_V (pv 5)) (ad_cons (ed_V (pv 6)) ad_nil))) (gd_dput (hu65 hr) (fun h1 h2 => pg_sub h1 h2 (set_dic (hu65 hr))) (ed_V (pv 2)) (ed_V (pv 8))))
  (bd_one (sd_do (ed_lm (fun h1 h2 => pe_bm PySem.F.plainAttrs_list PySem.F.slot_list_append PySem.F.type_list_append mt_append h1 h2) okl_app (ed_V (pv 4)) (ad_cons (ed_V (pv 8)) ad_nil)))))
  bd_nil))))))
  (bd_one (sd_set (fun h => ps_set (i := 3) scSearch.nd rfl (.inl rfl) h) (ed_V (pv 4)))))))
  (bd_one (sd_ret (ed_tup (ad_cons (ed_V (pv 2)) (ad_cons ed_non ad_nil))))))))
def rd_AsRain : SF := (sSeq (sIf (gNot (gE (fCall 1 F_IsSequence [] (f2 (fFrz (fV 0)) f0))))
  sNo
  sNil)
  (sSeq (sFor (fEn (f2 (fV 0) f0)) 1 (f2 (un 2) (f2 (put 1) (f2 (put 2) some)))
  (sIf (gNot (gE (fIsi "bool" (fV 2))))
  sNo
  sNil))
  (sRet (fCB 1 oTup (f2 (fV 0) f0)))))
def F_AsRain : FT := runF 1 2 rd_AsRain
theorem ok_AsRain {P : Program} {w : World} {K : PySem.W.Frag} {mg : Str → Option Value} {base : Heap} {fn : Option (Addr × Hp × (Addr → Prop))} (T : Txt K mg) : FnOk P w K mg base CX0 2 T.fAsRain T.fdAsRain ["value"] (spF (evT T w fn) 1 F_AsRain) := by
  have GIsSequence := ok_IsSequence (P := P) (w := w) (base := base) (fn := fn) T
  refine fd_ok T.FAsRain scAsRain 2 rfl fun cdv A outer s H Ex hr => ?_
  unfold rd_AsRain
  exact (bd_cons (sd_if (td_not (td_val (ed_call (fun h => pe_call GIsSequence (hr.mono (by decide)) (by rfl) T.gIsSequence T.FIsSequence.kp (bIsSequence T) .nil pass0 h) .nil rfl (ad_cons (ed_frz (ed_V (pv 0))) ad_nil)) (fun h => pt_val h)))
  (bd_one sd_never)
  bd_nil)
  (bd_cons (sd_for (fun h1 h2 h3 => ps_for PassesOwn.never rfl h1 h2 h3) (id_en (fun h => pi_enum (by rfl) T.m_enumerate h) (fun h => pi_enumT (by rfl) T.m_enumerate h) (ad_cons (ed_V (pv 0)) ad_nil)) (gd_tup rfl (gsd_cons (gd_name (pg_name (i := 1) scAsRain.nd rfl (.inl rfl))) (gsd_cons (gd_name (pg_name (i := 2) scAsRain.nd rfl (.inl rfl))) gsd_nil)))
  (bd_one (sd_if (td_not (td_val (ed_isi (fun h => pe_callB call_isi (by rfl) T.m_isinstance (by decide +kernel) h) (ed_V (pv 2)) (pe_bltn (v := .ty "bool") (by rfl) T.m_bool (by decide +kernel) rfl)) (fun h => pt_val h)))
  (bd_one sd_never)
  bd_nil)))
  (bd_one (sd_ret (ed_cb (fun h => pe_callTy call_tuple_of (by rfl) T.m_tuple (by decide +kernel) h) ok_tup (ad_cons (ed_V (pv 0)) ad_nil))))))
def rd_MeasureLets : SF := (sSeq (sPut (fLc (fEn (f2 (fCall 1 F_AsRain [] (f2 (fFrz (fV 1)) f0)) f0)) 1 [3, 4] (f2 (un 2) (f2 (put 3) (f2 (put 4) some))) (gE (fV 4)) (fV 3)) (put 2))
  (sRet (fCB 1 oAll (f2 (fLc (fZip (f2 (fV 2) (f2 (fSl (fV 2) (gPart (fFld ["Measure"] "most" (fV 0))) gNoP) f0))) 2 [3, 5] (f2 (un 2) (f2 (put 3) (f2 (put 5) some))) gYes (fB oGe (fB oSub (fV 5) (fV 3)) (fFld ["Measure"] "span" (fV 0)))) f0))))
def F_MeasureLets : FT := runF 2 4 rd_MeasureLets
theorem ok_MeasureLets {P : Program} {w : World} {K : PySem.W.Frag} {mg : Str → Option Value} {base : Heap} {fn : Option (Addr × Hp × (Addr → Prop))} (T : Txt K mg) : FnOk P w K mg base CX0 3 T.fMeasureLets T.fdMeasureLets ["self", "rain"] (spF (evT T w fn) 2 F_MeasureLets) := by
  have GAsRain := ok_AsRain (P := P) (w := w) (base := base) (fn := fn) T
  refine fd_ok T.FMeasureLets scMeasureLets 4 rfl fun cdv A outer s H Ex hr => ?_
  unfold rd_MeasureLets
  exact (bd_cons (sd_setLc (i := 2) (own := [("day", 3), ("is_rainy", 4)]) rfl scMeasureLets.nd rfl rfl (sw_true rfl rfl rfl (by decide +kernel)) (id_en (fun h => pi_enum (by rfl) T.m_enumerate h) (fun h => pi_enumT (by rfl) T.m_enumerate h) (ad_cons (ed_call (fun h => pe_call GAsRain (hr.mono (by decide)) (by rfl) T.gAsRain T.FAsRain.kp (bAsRain T) .nil pass0 h) .nil rfl (ad_cons (ed_frz (ed_V (pv 1))) ad_nil)) ad_nil)) (blkOk_by (own := [("day", 3), ("is_rainy", 4)]) (N := NMeasureLets) (sc := defScope sMeasureLets) (by decide +kernel)) (fun _ _ _ _ _ => (gd_tup rfl (gsd_cons (gd_name (pg_name (i := 3) scMeasureLets.nd rfl (.inl rfl))) (gsd_cons (gd_name (pg_name (i := 4) scMeasureLets.nd rfl (.inl rfl))) gsd_nil)))) (fun _ _ _ _ _ => (tsd_one (td_val (ed_V (pv 4)) (fun h => pt_val h)))) (fun _ _ _ _ _ => (ed_V (pv 3))) (by decide))
  (bd_one (sd_ret (ed_cb (fun h => pe_callB (cr_all rfl) (by rfl) T.m_all (by decide +kernel) h) ok_all (ad_cons (ed_lc (own := [("day", 3), ("later", 5)]) rfl scMeasureLets.nd (id_zip (fun h => RZ.pi_zipA (by rfl) T.m_zip h) (ad_cons (ed_V (pv 2)) (ad_cons (ed_slice (ed_V (pv 2)) (od_some (ed_fld (na_most T) (ed_V (pv 0)))) od_none) ad_nil))) (blkOk_by (own := [("day", 3), ("later", 5)]) (N := NMeasureLets) (sc := defScope sMeasureLets) (by decide +kernel)) (fun _ _ _ _ _ => (gd_tup rfl (gsd_cons (gd_name (pg_name (i := 3) scMeasureLets.nd rfl (.inl rfl))) (gsd_cons (gd_name (pg_name (i := 5) scMeasureLets.nd rfl (.inl rfl))) gsd_nil)))) (fun _ _ _ _ _ => tsd_nil) (fun _ _ _ _ _ => (ed_cmp op_ge ok_ge (ed_op op_sub ok_sub (ed_V (pv 5)) (ed_V (pv 3))) (ed_fld (na_span T) (ed_V (pv 0))) (nomark _))) (by decide)) ad_nil)))))
def rd_DaysLet : SF := (sSeq (sPut (fLc (fSq (fTup 2 (f2 (fC (.bl false)) (f2 (fC (.bl true)) f0)))) 1 [3] (put 3) gYes (fTupS (sStar (fV 1) (s1 (fV 3) s0)))) (put 2))
  (sRet (fLc (fSq (fV 2)) 1 [4] (put 4) (gE (fMeth "Measure" "lets" 1 F_MeasureLets [] (fV 0) (f2 (fFrz (fV 4)) f0))) (fTup 2 (f2 (fB oIx (fV 4) (fNeg (fC (.int 1)))) (f2 (fSl (fV 4) (gPart (fC (.int 1))) gNoP) f0))))))
def F_DaysLet : FT := runF 2 3 rd_DaysLet
theorem ok_DaysLet {P : Program} {w : World} {K : PySem.W.Frag} {mg : Str → Option Value} {base : Heap} {fn : Option (Addr × Hp × (Addr → Prop))} (T : Txt K mg) : FnOk P w K mg base CX0 4 T.fDaysLet T.fdDaysLet ["measure", "last_rain"] (spF (evT T w fn) 2 F_DaysLet) := by
  have GMeasureLets := ok_MeasureLets (P := P) (w := w) (base := base) (fn := fn) T
  refine fd_ok T.FDaysLet scDaysLet 3 rfl fun cdv A outer s H Ex hr => ?_
  unfold rd_DaysLet
  exact (bd_cons (sd_setLc (i := 2) (own := [("is_rainy", 3)]) rfl scDaysLet.nd rfl rfl (sw_true rfl rfl rfl (by decide +kernel)) (id_seq (ed_tup (ad_cons ed_bl (ad_cons ed_bl ad_nil)))) (blkOk_by (own := [("is_rainy", 3)]) (N := NDaysLet) (sc := defScope sDaysLet) (by decide +kernel)) (fun _ _ _ _ _ => (gd_name (pg_name (i := 3) scDaysLet.nd rfl (.inl rfl)))) (fun _ _ _ _ _ => tsd_nil) (fun _ _ _ _ _ => (ed_tupS (asd_star (ed_V (pv 1)) (asd_cons (ed_V (pv 3)) asd_nil)))) (by decide))
  (bd_one (sd_ret (ed_lc (own := [("rain", 4)]) rfl scDaysLet.nd (id_seq (ed_V (pv 2))) (blkOk_by (own := [("rain", 4)]) (N := NDaysLet) (sc := defScope sDaysLet) (by decide +kernel)) (fun _ _ _ _ _ => (gd_name (pg_name (i := 4) scDaysLet.nd rfl (.inl rfl)))) (fun _ _ _ _ _ => (tsd_one (td_val (ed_meth (by rfl) (fun h1 h2 => pe_meth h1 T.clMeasure T.mMeasureLets GMeasureLets (hr.mono (by decide)) (bMeasureLets T) .nil pass0 h2) .nil rfl (ed_V (pv 0)) (ad_cons (ed_frz (ed_V (pv 4))) ad_nil)) (fun h => pt_val h)))) (fun _ _ _ _ _ => (ed_tup (ad_cons (ed_ix ix_seq ok_ix (ed_V (pv 4)) (ed_neg ed_int) (fun _ _ => rfl)) (ad_cons (ed_slice (ed_V (pv 4)) (od_some ed_int) od_none) ad_nil)))) (by decide)))))
def rd_WeekOn : SF := (sSeq (sPut (fB oMod (fV 1) (fFld ["Week"] "days" (fV 0))) (put 2))
  (sRet (fCB 1 oTup (f2 (fLc (fEn (f2 (fFld ["Week"] "matches" (fV 0)) f0)) 1 [3, 4] (f2 (un 2) (f2 (put 3) (f2 (put 4) some))) (gE (fB (oEqD false) (fB oIx (fV 4) (fC (.int 0))) (fV 2))) (fV 3)) f0))))
def F_WeekOn : FT := runF 2 3 rd_WeekOn
theorem ok_WeekOn {P : Program} {w : World} {K : PySem.W.Frag} {mg : Str → Option Value} {base : Heap} {fn : Option (Addr × Hp × (Addr → Prop))} (T : Txt K mg) : FnOk P w K mg base CX0 1 T.fWeekOn T.fdWeekOn ["self", "day"] (spF (evT T w fn) 2 F_WeekOn) := by
  refine fd_ok T.FWeekOn scWeekOn 3 rfl fun cdv A outer s H Ex hr => ?_
  unfold rd_WeekOn
  exact (bd_cons (sd_set (fun h => ps_set (i := 2) scWeekOn.nd rfl (.inr rfl) h) (ed_op op_mod ok_mod (ed_V (pv 1)) (ed_fld (na_days T) (ed_V (pv 0)))))
  (bd_one (sd_ret (ed_cb (fun h => pe_callTy call_tuple_of (by rfl) T.m_tuple (by decide +kernel) h) ok_tup (ad_cons (ed_lc (own := [("at", 3), ("match", 4)]) rfl scWeekOn.nd (id_en (fun h => pi_enum (by rfl) T.m_enumerate h) (fun h => pi_enumT (by rfl) T.m_enumerate h) (ad_cons (ed_fld (na_matches T) (ed_V (pv 0))) ad_nil)) (blkOk_by (own := [("at", 3), ("match", 4)]) (N := NWeekOn) (sc := defScope sWeekOn) (by decide +kernel)) (fun _ _ _ _ _ => (gd_tup rfl (gsd_cons (gd_name (pg_name (i := 3) scWeekOn.nd rfl (.inl rfl))) (gsd_cons (gd_name (pg_name (i := 4) scWeekOn.nd rfl (.inl rfl))) gsd_nil)))) (fun _ _ _ _ _ => (tsd_one (td_cmp (op_eqD hr.units) ok_eqD (ed_ix ix_seq ok_ix (ed_V (pv 4)) ed_int (fun _ _ => rfl)) (ed_V (pv 2)) (nomark _)))) (fun _ _ _ _ _ => (ed_V (pv 3))) (by decide)) ad_nil)))))
def rd_IsBarred : SF := (sSeq (sPut (fB oIx (fFld ["Week"] "matches" (fV 0)) (fV 1)) (f2 unS (f2 (put 3) (put 4))))
  (sRet (fCB 1 oAny (f2 (fLc2 (fSq (fV 2)) 1 [5, 6] (put 5) gYes (fSq (fSl (fB oIx (fFld ["Week"] "matches" (fV 0)) (fV 5)) (gPart (fC (.int 1))) gNoP)) 1 [6] (put 6) gYes (fB (oIn false) (fV 6) (fV 4))) f0))))
def F_IsBarred : FT := runF 3 4 rd_IsBarred
theorem ok_IsBarred {P : Program} {w : World} {K : PySem.W.Frag} {mg : Str → Option Value} {base : Heap} {fn : Option (Addr × Hp × (Addr → Prop))} (T : Txt K mg) : FnOk P w K mg base CX0 1 T.fIsBarred T.fdIsBarred ["week", "match", "others"] (spF (evT T w fn) 3 F_IsBarred) := by
  refine fd_ok T.FIsBarred scIsBarred 4 rfl fun cdv A outer s H Ex hr => ?_
  unfold rd_IsBarred
  exact (bd_cons (sd_asg (te := tAsg) (fun h1 h2 => ps_asg h1 h2) (ed_ix ix_seq ok_ix (ed_fld (na_matches T) (ed_V (pv 0))) (ed_V (pv 1)) (fun _ _ => rfl)) (gd_star rfl (gd_name (pg_name (i := 3) scIsBarred.nd rfl (.inl rfl))) (gd_name (pg_name (i := 4) scIsBarred.nd rfl (.inr rfl)))))
  (bd_one (sd_ret (ed_cb (fun h => pe_callB (cr_any rfl) (by rfl) T.m_any (by decide +kernel) h) ok_any (ad_cons (ed_lc2 (own := [("other", 5), ("side", 6)]) (vs1 := [6]) rfl scIsBarred.nd (id_seq (ed_V (pv 2))) (blkOk_by (own := [("other", 5), ("side", 6)]) (N := NIsBarred) (sc := defScope sIsBarred) (by decide +kernel)) (by decide) (fun _ _ _ _ _ => (gd_name (pg_name (i := 5) scIsBarred.nd rfl (.inl rfl)))) (fun _ _ _ _ _ => tsd_nil) (fun _ _ _ _ _ => (id_seq (ed_slice (ed_ix ix_seq ok_ix (ed_fld (na_matches T) (ed_V (pv 0))) (ed_V (pv 5)) (fun _ _ => rfl)) (od_some ed_int) od_none))) (fun _ _ _ _ _ => (gd_name (pg_name (i := 6) scIsBarred.nd rfl (.inl rfl)))) (fun _ _ _ _ _ => tsd_nil) (fun _ _ _ _ _ => (ed_cmp (opr_in (hu65 hr)) (ok_in false) (ed_V (pv 6)) (ed_V (pv 4)) (by rfl))) (by decide) (by decide)) ad_nil)))))
end L37
set_option Elab.async false
set_option linter.all false
set_option maxRecDepth 100000
set_option maxHeartbeats 4000000
namespace L37
open PySem PySem.Spec PyProof.Rows L2 Rw Fn LamX
def rd_MatchesNear : SF := (sSeq (sPut (fCB 2 oRng2 (f2 (fCB 2 oMax2 (f2 (fB oAdd (fV 2) (fC (.int 1))) (f2 (fB oAdd (fB oSub (fV 3) (fFld ["Rule"] "gap" (fV 1))) (fC (.int 1))) f0))) (f2 (fB oAdd (fV 3) (fFld ["Rule"] "gap" (fV 1))) f0))) (put 5))
  (sSeq (sPut (fLc2 (fSq (fV 5)) 1 [7, 8] (put 7) gYes (fSq (fMeth "Week" "on" 1 F_WeekOn [] (fV 0) (f2 (fFrz (fV 7)) f0))) 1 [8] (put 8) gYes (fV 8)) (put 6))
  (sRet (fB oAdd (fV 6) (fLc (fSq (fV 4)) 1 [7, 9, 8] (f2 (un 3) (f2 (put 7) (f2 (put 9) (f2 (put 8) some)))) (gE (fB (oInR false) (fV 7) (fV 5))) (fV 8))))))
def F_MatchesNear : FT := runF 5 5 rd_MatchesNear
theorem ok_MatchesNear {P : Program} {w : World} {K : PySem.W.Frag} {mg : Str → Option Value} {base : Heap} {fn : Option (Addr × Hp × (Addr → Prop))} (T : Txt K mg) : FnOk P w K mg base CX0 2 T.fMatchesNear T.fdMatchesNear ["week", "rule", "day", "to", "waiting"] (spF (evT T w fn) 5 F_MatchesNear) := by
  have GWeekOn := ok_WeekOn (P := P) (w := w) (base := base) (fn := fn) T
  refine fd_ok T.FMatchesNear scMatchesNear 5 rfl fun cdv A outer s H Ex hr => ?_
  unfold rd_MatchesNear
  exact (bd_cons (sd_set (fun h => ps_set (i := 5) scMatchesNear.nd rfl (.inr rfl) h) (ed_cb (fun h => pe_callTy cr_range2 (by rfl) T.m_range (by decide +kernel) h) ok_rng2 (ad_cons (ed_cb (fun h => pe_callB (call_max2 rfl) (by rfl) T.m_max (by decide +kernel) h) ok_max2 (ad_cons (ed_op opr_add ok_add (ed_V (pv 2)) ed_int) (ad_cons (ed_op opr_add ok_add (ed_op op_sub ok_sub (ed_V (pv 3)) (ed_fld (na_gap T) (ed_V (pv 1)))) ed_int) ad_nil))) (ad_cons (ed_op opr_add ok_add (ed_V (pv 3)) (ed_fld (na_gap T) (ed_V (pv 1)))) ad_nil))))
  (bd_cons (sd_setLc2 (i := 6) (own := [("later", 7), ("match", 8)]) (vs1 := [8]) rfl scMatchesNear.nd rfl rfl (sw_true rfl rfl rfl (by decide +kernel)) (id_seq (ed_V (pv 5))) (blkOk_by (own := [("later", 7), ("match", 8)]) (N := NMatchesNear) (sc := defScope sMatchesNear) (by decide +kernel)) (by decide) (fun _ _ _ _ _ => (gd_name (pg_name (i := 7) scMatchesNear.nd rfl (.inl rfl)))) (fun _ _ _ _ _ => tsd_nil) (fun _ _ _ _ _ => (id_seq (ed_meth (by rfl) (fun h1 h2 => pe_meth h1 T.clWeek T.mWeekOn GWeekOn (hr.mono (by decide)) (bWeekOn T) .nil pass0 h2) .nil rfl (ed_V (pv 0)) (ad_cons (ed_frz (ed_V (pv 7))) ad_nil)))) (fun _ _ _ _ _ => (gd_name (pg_name (i := 8) scMatchesNear.nd rfl (.inl rfl)))) (fun _ _ _ _ _ => tsd_nil) (fun _ _ _ _ _ => (ed_V (pv 8))) (by decide) (by decide))
  (bd_one (sd_ret (ed_op opr_add ok_add (ed_V (pv 6)) (ed_lc (own := [("later", 7), ("_", 9), ("match", 8)]) rfl scMatchesNear.nd (id_seq (ed_V (pv 4))) (blkOk_by (own := [("later", 7), ("_", 9), ("match", 8)]) (N := NMatchesNear) (sc := defScope sMatchesNear) (by decide +kernel)) (fun _ _ _ _ _ => (gd_tup rfl (gsd_cons (gd_name (pg_name (i := 7) scMatchesNear.nd rfl (.inl rfl))) (gsd_cons (gd_name (pg_name (i := 9) scMatchesNear.nd rfl (.inl rfl))) (gsd_cons (gd_name (pg_name (i := 8) scMatchesNear.nd rfl (.inl rfl))) gsd_nil))))) (fun _ _ _ _ _ => (tsd_one (td_cmp op_in_rng ok_inR (ed_V (pv 7)) (ed_V (pv 5)) (by rfl)))) (fun _ _ _ _ _ => (ed_V (pv 8))) (by decide)))))))
def rd_NewDay : SF := (sSeq (sPut (fV 3) (f2 (un 2) (f2 (put 5) (f2 (put 6) some))))
  (sSeq (sFor (fRg2 (f2 (fB oAdd (fV 2) (fC (.int 1))) (f2 (fB oAdd (fB oAdd (fV 5) (fFld ["Rule"] "window" (fV 1))) (fC (.int 1))) f0))) 0 (put 7)
  (sIf (gAnd (gE (fB (oIn false) (fB oMod (fV 7) (fFld ["Week"] "days" (fV 0))) (fFld ["Rule"] "let" (fV 1)))) (gNot (gE (fCall 3 F_IsBarred [] (f2 (fFrz (fV 0)) (f2 (fFrz (fV 6)) (f2 (fFrz (fCall 5 F_MatchesNear [] (f2 (fFrz (fV 0)) (f2 (fFrz (fV 1)) (f2 (fFrz (fV 2)) (f2 (fFrz (fV 7)) (f2 (fFrz (fV 4)) f0))))))) f0)))))))
  (sRet (fV 7))
  sNil))
  (sRet (fC .non))))
def F_NewDay : FT := runF 5 3 rd_NewDay
theorem ok_NewDay {P : Program} {w : World} {K : PySem.W.Frag} {mg : Str → Option Value} {base : Heap} {fn : Option (Addr × Hp × (Addr → Prop))} (T : Txt K mg) : FnOk P w K mg base CX0 3 T.fNewDay T.fdNewDay ["week", "rule", "day", "due", "waiting"] (spF (evT T w fn) 5 F_NewDay) := by
  have GIsBarred := ok_IsBarred (P := P) (w := w) (base := base) (fn := fn) T
  have GMatchesNear := ok_MatchesNear (P := P) (w := w) (base := base) (fn := fn) T
  refine fd_ok T.FNewDay scNewDay 3 rfl fun cdv A outer s H Ex hr => ?_
  unfold rd_NewDay
  exact (bd_cons (sd_asg (te := tAsg) (fun h1 h2 => ps_asg h1 h2) (ed_V (pv 3)) (gd_tup rfl (gsd_cons (gd_name (pg_name (i := 5) scNewDay.nd rfl (.inl rfl))) (gsd_cons (gd_name (pg_name (i := 6) scNewDay.nd rfl (.inl rfl))) gsd_nil))))
  (bd_cons (sd_for (fun h1 h2 h3 => ps_for PassesOwn.never rfl h1 h2 h3) (id_rg2 (fun h => pi_range2 (by rfl) T.m_range h) (ad_cons (ed_op opr_add ok_add (ed_V (pv 2)) ed_int) (ad_cons (ed_op opr_add ok_add (ed_op opr_add ok_add (ed_V (pv 5)) (ed_fld (na_window T) (ed_V (pv 1)))) ed_int) ad_nil))) (gd_name (pg_name (i := 7) scNewDay.nd rfl (.inl rfl)))
  (bd_one (sd_if (WD.td (wd_and (td_cmp (opr_in (hu65 hr)) (ok_in false) (ed_op op_mod ok_mod (ed_V (pv 7)) (ed_fld (na_days T) (ed_V (pv 0)))) (ed_fld (na_let T) (ed_V (pv 1))) (by rfl)) (wd_and1 (td_not (td_val (ed_call (fun h => pe_call GIsBarred (hr.mono (by decide)) (by rfl) T.gIsBarred T.FIsBarred.kp (bIsBarred T) .nil pass0 h) .nil rfl (ad_cons (ed_frz (ed_V (pv 0))) (ad_cons (ed_frz (ed_V (pv 6))) (ad_cons (ed_frz (ed_call (fun h => pe_call GMatchesNear (hr.mono (by decide)) (by rfl) T.gMatchesNear T.FMatchesNear.kp (bMatchesNear T) .nil pass0 h) .nil rfl (ad_cons (ed_frz (ed_V (pv 0))) (ad_cons (ed_frz (ed_V (pv 1))) (ad_cons (ed_frz (ed_V (pv 2))) (ad_cons (ed_frz (ed_V (pv 7))) (ad_cons (ed_frz (ed_V (pv 4))) ad_nil))))))) ad_nil)))) (fun h => pt_val h))))))
  (bd_one (sd_ret (ed_V (pv 7))))
  bd_nil)))
  (bd_one (sd_ret ed_non))))
def rd_PutOff : SF := (sSeq (sPut (fIf (gE (fB (oEqD false) (fFld ["Rule"] "order" (fV 1)) (fC (.str "first")))) (fV 3) (fRv (fV 3))) (put 5))
  (sSeq (sPar 6 7 (f2 (fLst 0 f0) (f2 (fCB 1 oLst (f2 (fV 4) f0)) f0)))
  (sSeq (sFor (fSq (fV 5)) 1 (f2 (un 2) (f2 (put 8) (f2 (put 9) some)))
  (sSeq (sPut (fCall 5 F_NewDay [] (f2 (fFrz (fV 0)) (f2 (fFrz (fV 1)) (f2 (fFrz (fV 2)) (f2 (fFrz (fTup 2 (f2 (fV 8) (f2 (fV 9) f0)))) (f2 (fV 7) f0)))))) (put 10))
  (sIf (gE (fB (oIsN false) (fV 10) (fC .non)))
  (sDo (fLm 1 lApp (fV 6) (f2 (fTup 3 (f2 (fV 2) (f2 (fV 8) (f2 (fV 9) f0)))) f0)))
  (sDo (fLm 1 lApp (fV 7) (f2 (fTup 3 (f2 (fV 10) (f2 (fV 8) (f2 (fV 9) f0)))) f0))))))
  (sRet (fTup 2 (f2 (fCB 1 oTup (f2 (fCB 1 (oSort (.tupf [.int, .int, .int])) (f2 (fV 6) f0)) f0)) (f2 (fCB 1 oTup (f2 (fCB 1 (oSort (.tupf [.int, .int, .int])) (f2 (fV 7) f0)) f0)) f0)))))))
def F_PutOff : FT := runF 5 6 rd_PutOff
theorem ok_PutOff {P : Program} {w : World} {K : PySem.W.Frag} {mg : Str → Option Value} {base : Heap} {fn : Option (Addr × Hp × (Addr → Prop))} (T : Txt K mg) : FnOk P w K mg base CX0 4 T.fPutOff T.fdPutOff ["week", "rule", "day", "due", "waiting"] (spF (evT T w fn) 5 F_PutOff) := by
  have GNewDay := ok_NewDay (P := P) (w := w) (base := base) (fn := fn) T
  refine fd_ok T.FPutOff scPutOff 6 rfl fun cdv A outer s H Ex hr => ?_
  unfold rd_PutOff
  exact (bd_cons (sd_set (fun h => ps_set (i := 5) scPutOff.nd rfl (.inl rfl) h) (ed_if (td_cmp (op_eqD hr.units) ok_eqD (ed_fld (na_order T) (ed_V (pv 1))) ed_str (nomark _)) (ed_V (pv 3)) (ed_rev (ed_V (pv 3)))))
  (bd_cons (sd_par (fun h => ps_par (i := 6) (j := 7) rfl scPutOff.nd rfl rfl (by decide) rfl rfl h (by rfl)) rfl (ad_cons (ed_lst ad_nil) (ad_cons (ed_cb (fun h => pe_callTy call_list_of (by rfl) T.m_list (by decide +kernel) h) ok_lst (ad_cons (ed_V (pv 4)) ad_nil)) ad_nil)))
  (bd_cons (sd_for (fun h1 h2 h3 => ps_for PassesOwn.never rfl h1 h2 h3) (id_seq (ed_V (pv 5))) (gd_tup rfl (gsd_cons (gd_name (pg_name (i := 8) scPutOff.nd rfl (.inl rfl))) (gsd_cons (gd_name (pg_name (i := 9) scPutOff.nd rfl (.inl rfl))) gsd_nil)))
  (bd_cons (sd_set (fun h => ps_set (i := 10) scPutOff.nd rfl (.inl rfl) h) (ed_call (fun h => pe_call GNewDay (hr.mono (by decide)) (by rfl) T.gNewDay T.FNewDay.kp (bNewDay T) .nil pass0 h) .nil rfl (ad_cons (ed_frz (ed_V (pv 0))) (ad_cons (ed_frz (ed_V (pv 1))) (ad_cons (ed_frz (ed_V (pv 2))) (ad_cons (ed_frz (ed_tup (ad_cons (ed_V (pv 8)) (ad_cons (ed_V (pv 9)) ad_nil)))) (ad_cons (ed_V (pv 7)) ad_nil)))))))
  (bd_one (sd_if (td_cmp op_isN ok_isN (ed_V (pv 10)) ed_non (nomark _))
  (bd_one (sd_do (ed_lm (fun h1 h2 => pe_bm PySem.F.plainAttrs_list PySem.F.slot_list_append PySem.F.type_list_append mt_append h1 h2) okl_app (ed_V (pv 6)) (ad_cons (ed_tup (ad_cons (ed_V (pv 2)) (ad_cons (ed_V (pv 8)) (ad_cons (ed_V (pv 9)) ad_nil)))) ad_nil))))
  (bd_one (sd_do (ed_lm (fun h1 h2 => pe_bm PySem.F.plainAttrs_list PySem.F.slot_list_append PySem.F.type_list_append mt_append h1 h2) okl_app (ed_V (pv 7)) (ad_cons (ed_tup (ad_cons (ed_V (pv 10)) (ad_cons (ed_V (pv 8)) (ad_cons (ed_V (pv 9)) ad_nil)))) ad_nil))))))))
  (bd_one (sd_ret (ed_tup (ad_cons (ed_cb (fun h => pe_callTy call_tuple_of (by rfl) T.m_tuple (by decide +kernel) h) ok_tup (ad_cons (ed_cb (fun h => pe_callB (cr_sortD hr.units) (by rfl) T.m_sorted (by decide +kernel) h) (ok_sort (.tupf [.int, .int, .int])) (ad_cons (ed_V (pv 6)) ad_nil)) ad_nil)) (ad_cons (ed_cb (fun h => pe_callTy call_tuple_of (by rfl) T.m_tuple (by decide +kernel) h) ok_tup (ad_cons (ed_cb (fun h => pe_callB (cr_sortD hr.units) (by rfl) T.m_sorted (by decide +kernel) h) (ok_sort (.tupf [.int, .int, .int])) (ad_cons (ed_V (pv 7)) ad_nil)) ad_nil)) ad_nil))))))))
def rd_PlayDay : SF := (sSeq (sPut (fLc (fSq (fV 3)) 1 [6, 7, 8] (f2 (un 3) (f2 (put 6) (f2 (put 7) (f2 (put 8) some)))) (gE (fB (oEqD false) (fV 6) (fV 2))) (fTup 2 (f2 (fV 7) (f2 (fV 8) f0)))) (put 5))
  (sSeq (sPut (fCB 1 (oSort (.tupf [.int, .int])) (f2 (fB oAdd (fLc (fSq (fMeth "Week" "on" 1 F_WeekOn [] (fV 0) (f2 (fFrz (fV 2)) f0))) 1 [8] (put 8) gYes (fTup 2 (f2 (fV 2) (f2 (fV 8) f0)))) (fV 5)) f0)) (put 9))
  (sSeq (sPut (fCB 1 (oSort (.tupf [.int, .int, .int])) (f2 (fLc (fSq (fV 3)) 1 [11] (put 11) (gE (fB oGt (fB oIx (fV 11) (fC (.int 0))) (fV 2))) (fV 11)) f0)) (put 10))
  (sSeq (sIf (gNot (gE (fV 4)))
  (sRet (fTup 3 (f2 (fCB 1 oTup (f2 (fV 9) f0)) (f2 (fTup 0 f0) (f2 (fCB 1 oTup (f2 (fV 10) f0)) f0)))))
  sNil)
  (sSeq (sPut (fCall 5 F_PutOff [] (f2 (fFrz (fV 0)) (f2 (fFrz (fV 1)) (f2 (fFrz (fV 2)) (f2 (fFrz (fV 9)) (f2 (fFrz (fV 10)) f0)))))) (f2 (un 2) (f2 (put 12) (f2 (put 13) some))))
  (sRet (fTup 3 (f2 (fTup 0 f0) (f2 (fV 12) (f2 (fV 13) f0))))))))))
def F_PlayDay : FT := runF 5 9 rd_PlayDay
theorem ok_PlayDay {P : Program} {w : World} {K : PySem.W.Frag} {mg : Str → Option Value} {base : Heap} {fn : Option (Addr × Hp × (Addr → Prop))} (T : Txt K mg) : FnOk P w K mg base CX0 5 T.fPlayDay T.fdPlayDay ["week", "rule", "day", "waiting", "is_rainy"] (spF (evT T w fn) 5 F_PlayDay) := by
  have GWeekOn := ok_WeekOn (P := P) (w := w) (base := base) (fn := fn) T
  have GPutOff := ok_PutOff (P := P) (w := w) (base := base) (fn := fn) T
  refine fd_ok T.FPlayDay scPlayDay 9 rfl fun cdv A outer s H Ex hr => ?_
  unfold rd_PlayDay
  exact (bd_cons (sd_setLc (i := 5) (own := [("to", 6), ("own_day", 7), ("match", 8)]) rfl scPlayDay.nd rfl rfl (sw_true rfl rfl rfl (by decide +kernel)) (id_seq (ed_V (pv 3))) (blkOk_by (own := [("to", 6), ("own_day", 7), ("match", 8)]) (N := NPlayDay) (sc := defScope sPlayDay) (by decide +kernel)) (fun _ _ _ _ _ => (gd_tup rfl (gsd_cons (gd_name (pg_name (i := 6) scPlayDay.nd rfl (.inl rfl))) (gsd_cons (gd_name (pg_name (i := 7) scPlayDay.nd rfl (.inl rfl))) (gsd_cons (gd_name (pg_name (i := 8) scPlayDay.nd rfl (.inl rfl))) gsd_nil))))) (fun _ _ _ _ _ => (tsd_one (td_cmp (op_eqD hr.units) ok_eqD (ed_V (pv 6)) (ed_V (pv 2)) (nomark _)))) (fun _ _ _ _ _ => (ed_tup (ad_cons (ed_V (pv 7)) (ad_cons (ed_V (pv 8)) ad_nil)))) (by decide))
  (bd_cons (sd_set (fun h => ps_set (i := 9) scPlayDay.nd rfl (.inl rfl) h) (ed_cb (fun h => pe_callB (cr_sortD hr.units) (by rfl) T.m_sorted (by decide +kernel) h) (ok_sort (.tupf [.int, .int])) (ad_cons (ed_op opr_add ok_add (ed_lc (own := [("match", 8)]) rfl scPlayDay.nd (id_seq (ed_meth (by rfl) (fun h1 h2 => pe_meth h1 T.clWeek T.mWeekOn GWeekOn (hr.mono (by decide)) (bWeekOn T) .nil pass0 h2) .nil rfl (ed_V (pv 0)) (ad_cons (ed_frz (ed_V (pv 2))) ad_nil))) (blkOk_by (own := [("match", 8)]) (N := NPlayDay) (sc := defScope sPlayDay) (by decide +kernel)) (fun _ _ _ _ _ => (gd_name (pg_name (i := 8) scPlayDay.nd rfl (.inl rfl)))) (fun _ _ _ _ _ => tsd_nil) (fun _ _ _ _ _ => (ed_tup (ad_cons (ed_V (pv 2)) (ad_cons (ed_V (pv 8)) ad_nil)))) (by decide)) (ed_V (pv 5))) ad_nil)))
  (bd_cons (sd_set (fun h => ps_set (i := 10) scPlayDay.nd rfl (.inl rfl) h) (ed_cb (fun h => pe_callB (cr_sortD hr.units) (by rfl) T.m_sorted (by decide +kernel) h) (ok_sort (.tupf [.int, .int, .int])) (ad_cons (ed_lc (own := [("wait", 11)]) rfl scPlayDay.nd (id_seq (ed_V (pv 3))) (blkOk_by (own := [("wait", 11)]) (N := NPlayDay) (sc := defScope sPlayDay) (by decide +kernel)) (fun _ _ _ _ _ => (gd_name (pg_name (i := 11) scPlayDay.nd rfl (.inl rfl)))) (fun _ _ _ _ _ => (tsd_one (td_cmp op_gt ok_gt (ed_ix ix_seq ok_ix (ed_V (pv 11)) ed_int (fun _ _ => rfl)) (ed_V (pv 2)) (nomark _)))) (fun _ _ _ _ _ => (ed_V (pv 11))) (by decide)) ad_nil)))
  (bd_cons (sd_if (td_not (td_val (ed_V (pv 4)) (fun h => pt_val h)))
  (bd_one (sd_ret (ed_tup (ad_cons (ed_cb (fun h => pe_callTy call_tuple_of (by rfl) T.m_tuple (by decide +kernel) h) ok_tup (ad_cons (ed_V (pv 9)) ad_nil)) (ad_cons (ed_tup ad_nil) (ad_cons (ed_cb (fun h => pe_callTy call_tuple_of (by rfl) T.m_tuple (by decide +kernel) h) ok_tup (ad_cons (ed_V (pv 10)) ad_nil)) ad_nil))))))
  bd_nil)
  (bd_cons (sd_asg (te := tAsg) (fun h1 h2 => ps_asg h1 h2) (ed_call (fun h => pe_call GPutOff (hr.mono (by decide)) (by rfl) T.gPutOff T.FPutOff.kp (bPutOff T) .nil pass0 h) .nil rfl (ad_cons (ed_frz (ed_V (pv 0))) (ad_cons (ed_frz (ed_V (pv 1))) (ad_cons (ed_frz (ed_V (pv 2))) (ad_cons (ed_frz (ed_V (pv 9))) (ad_cons (ed_frz (ed_V (pv 10))) ad_nil)))))) (gd_tup rfl (gsd_cons (gd_name (pg_name (i := 12) scPlayDay.nd rfl (.inl rfl))) (gsd_cons (gd_name (pg_name (i := 13) scPlayDay.nd rfl (.inl rfl))) gsd_nil))))
  (bd_one (sd_ret (ed_tup (ad_cons (ed_tup ad_nil) (ad_cons (ed_V (pv 12)) (ad_cons (ed_V (pv 13)) ad_nil)))))))))))
def rd_Step : SF := (sSeq (sPut (fLc (fSq (fV 3)) 1 [6, 7, 8] (f2 (un 3) (f2 (put 6) (f2 (put 7) (f2 (put 8) some)))) gYes (fTup 3 (f2 (fB oAdd (fV 2) (fV 6)) (f2 (fB oSub (fV 2) (fV 7)) (f2 (fV 8) f0))))) (put 5))
  (sSeq (sPut (fCall 5 F_PlayDay [] (f2 (fFrz (fV 0)) (f2 (fFrz (fV 1)) (f2 (fFrz (fV 2)) (f2 (fFrz (fV 5)) (f2 (fFrz (fV 4)) f0)))))) (f2 (un 3) (f2 (put 9) (f2 (put 10) (f2 (put 11) some)))))
  (sSeq (sPut (fB oAdd (fV 2) (fC (.int 1))) (put 12))
  (sSeq (sPut (fCB 1 (oSort (.tupf [.int, .int, .int])) (f2 (fLc (fSq (fV 11)) 1 [14, 15, 8] (f2 (un 3) (f2 (put 14) (f2 (put 15) (f2 (put 8) some)))) gYes (fTup 3 (f2 (fB oSub (fV 14) (fV 12)) (f2 (fB oSub (fV 12) (fV 15)) (f2 (fV 8) f0))))) f0)) (put 13))
  (sRet (fTup 3 (f2 (fCB 1 oTup (f2 (fLc (fSq (fV 9)) 1 [15, 8] (f2 (un 2) (f2 (put 15) (f2 (put 8) some))) gYes (fTup 2 (f2 (fB oSub (fV 2) (fV 15)) (f2 (fV 8) f0)))) f0)) (f2 (fCB 1 oTup (f2 (fLc (fSq (fV 10)) 1 [16, 15, 8] (f2 (un 3) (f2 (put 16) (f2 (put 15) (f2 (put 8) some)))) gYes (fTup 2 (f2 (fB oSub (fV 2) (fV 15)) (f2 (fV 8) f0)))) f0)) (f2 (fCB 1 oTup (f2 (fV 13) f0)) f0)))))))))
def F_Step : FT := runF 5 12 rd_Step
theorem ok_Step {P : Program} {w : World} {K : PySem.W.Frag} {mg : Str → Option Value} {base : Heap} {fn : Option (Addr × Hp × (Addr → Prop))} (T : Txt K mg) : FnOk P w K mg base CX0 6 T.fStep T.fdStep ["week", "rule", "today", "waiting", "is_rainy"] (spF (evT T w fn) 5 F_Step) := by
  have GPlayDay := ok_PlayDay (P := P) (w := w) (base := base) (fn := fn) T
  refine fd_ok T.FStep scStep 12 rfl fun cdv A outer s H Ex hr => ?_
  unfold rd_Step
  exact (bd_cons (sd_setLc (i := 5) (own := [("days_ahead", 6), ("days_ago", 7), ("match", 8)]) rfl scStep.nd rfl rfl (sw_true rfl rfl rfl (by decide +kernel)) (id_seq (ed_V (pv 3))) (blkOk_by (own := [("days_ahead", 6), ("days_ago", 7), ("match", 8)]) (N := NStep) (sc := defScope sStep) (by decide +kernel)) (fun _ _ _ _ _ => (gd_tup rfl (gsd_cons (gd_name (pg_name (i := 6) scStep.nd rfl (.inl rfl))) (gsd_cons (gd_name (pg_name (i := 7) scStep.nd rfl (.inl rfl))) (gsd_cons (gd_name (pg_name (i := 8) scStep.nd rfl (.inl rfl))) gsd_nil))))) (fun _ _ _ _ _ => tsd_nil) (fun _ _ _ _ _ => (ed_tup (ad_cons (ed_op opr_add ok_add (ed_V (pv 2)) (ed_V (pv 6))) (ad_cons (ed_op op_sub ok_sub (ed_V (pv 2)) (ed_V (pv 7))) (ad_cons (ed_V (pv 8)) ad_nil))))) (by decide))
  (bd_cons (sd_asg (te := tAsg) (fun h1 h2 => ps_asg h1 h2) (ed_call (fun h => pe_call GPlayDay (hr.mono (by decide)) (by rfl) T.gPlayDay T.FPlayDay.kp (bPlayDay T) .nil pass0 h) .nil rfl (ad_cons (ed_frz (ed_V (pv 0))) (ad_cons (ed_frz (ed_V (pv 1))) (ad_cons (ed_frz (ed_V (pv 2))) (ad_cons (ed_frz (ed_V (pv 5))) (ad_cons (ed_frz (ed_V (pv 4))) ad_nil)))))) (gd_tup rfl (gsd_cons (gd_name (pg_name (i := 9) scStep.nd rfl (.inl rfl))) (gsd_cons (gd_name (pg_name (i := 10) scStep.nd rfl (.inl rfl))) (gsd_cons (gd_name (pg_name (i := 11) scStep.nd rfl (.inl rfl))) gsd_nil)))))
  (bd_cons (sd_set (fun h => ps_set (i := 12) scStep.nd rfl (.inr rfl) h) (ed_op opr_add ok_add (ed_V (pv 2)) ed_int))
  (bd_cons (sd_set (fun h => ps_set (i := 13) scStep.nd rfl (.inl rfl) h) (ed_cb (fun h => pe_callB (cr_sortD hr.units) (by rfl) T.m_sorted (by decide +kernel) h) (ok_sort (.tupf [.int, .int, .int])) (ad_cons (ed_lc (own := [("to", 14), ("own_day", 15), ("match", 8)]) rfl scStep.nd (id_seq (ed_V (pv 11))) (blkOk_by (own := [("to", 14), ("own_day", 15), ("match", 8)]) (N := NStep) (sc := defScope sStep) (by decide +kernel)) (fun _ _ _ _ _ => (gd_tup rfl (gsd_cons (gd_name (pg_name (i := 14) scStep.nd rfl (.inl rfl))) (gsd_cons (gd_name (pg_name (i := 15) scStep.nd rfl (.inl rfl))) (gsd_cons (gd_name (pg_name (i := 8) scStep.nd rfl (.inl rfl))) gsd_nil))))) (fun _ _ _ _ _ => tsd_nil) (fun _ _ _ _ _ => (ed_tup (ad_cons (ed_op op_sub ok_sub (ed_V (pv 14)) (ed_V (pv 12))) (ad_cons (ed_op op_sub ok_sub (ed_V (pv 12)) (ed_V (pv 15))) (ad_cons (ed_V (pv 8)) ad_nil))))) (by decide)) ad_nil)))
  (bd_one (sd_ret (ed_tup (ad_cons (ed_cb (fun h => pe_callTy call_tuple_of (by rfl) T.m_tuple (by decide +kernel) h) ok_tup (ad_cons (ed_lc (own := [("own_day", 15), ("match", 8)]) rfl scStep.nd (id_seq (ed_V (pv 9))) (blkOk_by (own := [("own_day", 15), ("match", 8)]) (N := NStep) (sc := defScope sStep) (by decide +kernel)) (fun _ _ _ _ _ => (gd_tup rfl (gsd_cons (gd_name (pg_name (i := 15) scStep.nd rfl (.inl rfl))) (gsd_cons (gd_name (pg_name (i := 8) scStep.nd rfl (.inl rfl))) gsd_nil)))) (fun _ _ _ _ _ => tsd_nil) (fun _ _ _ _ _ => (ed_tup (ad_cons (ed_op op_sub ok_sub (ed_V (pv 2)) (ed_V (pv 15))) (ad_cons (ed_V (pv 8)) ad_nil)))) (by decide)) ad_nil)) (ad_cons (ed_cb (fun h => pe_callTy call_tuple_of (by rfl) T.m_tuple (by decide +kernel) h) ok_tup (ad_cons (ed_lc (own := [("_", 16), ("own_day", 15), ("match", 8)]) rfl scStep.nd (id_seq (ed_V (pv 10))) (blkOk_by (own := [("_", 16), ("own_day", 15), ("match", 8)]) (N := NStep) (sc := defScope sStep) (by decide +kernel)) (fun _ _ _ _ _ => (gd_tup rfl (gsd_cons (gd_name (pg_name (i := 16) scStep.nd rfl (.inl rfl))) (gsd_cons (gd_name (pg_name (i := 15) scStep.nd rfl (.inl rfl))) (gsd_cons (gd_name (pg_name (i := 8) scStep.nd rfl (.inl rfl))) gsd_nil))))) (fun _ _ _ _ _ => tsd_nil) (fun _ _ _ _ _ => (ed_tup (ad_cons (ed_op op_sub ok_sub (ed_V (pv 2)) (ed_V (pv 15))) (ad_cons (ed_V (pv 8)) ad_nil)))) (by decide)) ad_nil)) (ad_cons (ed_cb (fun h => pe_callTy call_tuple_of (by rfl) T.m_tuple (by decide +kernel) h) ok_tup (ad_cons (ed_V (pv 13)) ad_nil)) ad_nil))))))))))
def rd_PairSteps : SF := (sSeq (sPut (fV 4) (f2 (un 4) (f2 (put 5) (f2 (put 6) (f2 (put 7) (f2 (put 8) some))))))
  (sSeq (sPut (fLst 0 f0) (put 9))
  (sSeq (sFor (fSq (fCall 2 F_DaysLet [] (f2 (fFrz (fV 3)) (f2 (fFrz (fV 8)) f0)))) 1 (f2 (un 2) (f2 (put 10) (f2 (put 11) some)))
  (sSeq (sPut (fCall 5 F_Step [] (f2 (fFrz (fV 0)) (f2 (fFrz (fV 1)) (f2 (fFrz (fV 5)) (f2 (fFrz (fV 6)) (f2 (fFrz (fV 10)) f0)))))) (f2 (un 3) (f2 (put 12) (f2 (put 13) (f2 (put 14) some)))))
  (sSeq (sPut (fCall 5 F_Step [] (f2 (fFrz (fV 0)) (f2 (fFrz (fV 2)) (f2 (fFrz (fV 5)) (f2 (fFrz (fV 7)) (f2 (fFrz (fV 10)) f0)))))) (f2 (un 3) (f2 (put 15) (f2 (put 16) (f2 (put 17) some)))))
  (sSeq (sPut (fOr (fB (oEqD true) (fV 12) (fV 15)) (fB (oEqD true) (fV 13) (fV 16))) (put 18))
  (sDo (fLm 1 lApp (fV 9) (f2 (fTup 3 (f2 (fV 10) (f2 (fV 18) (f2 (fTup 4 (f2 (fB oMod (fB oAdd (fV 5) (fC (.int 1))) (fFld ["Week"] "days" (fV 0))) (f2 (fV 14) (f2 (fV 17) (f2 (fV 11) f0))))) f0)))) f0)))))))
  (sRet (fV 9)))))
def F_PairSteps : FT := runF 5 14 rd_PairSteps
theorem ok_PairSteps {P : Program} {w : World} {K : PySem.W.Frag} {mg : Str → Option Value} {base : Heap} {fn : Option (Addr × Hp × (Addr → Prop))} (T : Txt K mg) : FnOk P w K mg base CX0 7 T.fPairSteps T.fdPairSteps ["week", "p", "q", "measure", "pair"] (spF (evT T w fn) 5 F_PairSteps) := by
  have GDaysLet := ok_DaysLet (P := P) (w := w) (base := base) (fn := fn) T
  have GStep := ok_Step (P := P) (w := w) (base := base) (fn := fn) T
  refine fd_ok T.FPairSteps scPairSteps 14 rfl fun cdv A outer s H Ex hr => ?_
  unfold rd_PairSteps
  exact (bd_cons (sd_asg (te := tAsg) (fun h1 h2 => ps_asg h1 h2) (ed_V (pv 4)) (gd_tup rfl (gsd_cons (gd_name (pg_name (i := 5) scPairSteps.nd rfl (.inl rfl))) (gsd_cons (gd_name (pg_name (i := 6) scPairSteps.nd rfl (.inl rfl))) (gsd_cons (gd_name (pg_name (i := 7) scPairSteps.nd rfl (.inl rfl))) (gsd_cons (gd_name (pg_name (i := 8) scPairSteps.nd rfl (.inl rfl))) gsd_nil))))))
  (bd_cons (sd_set (fun h => ps_set (i := 9) scPairSteps.nd rfl (.inl rfl) h) (ed_lst ad_nil))
  (bd_cons (sd_for (fun h1 h2 h3 => ps_for PassesOwn.never rfl h1 h2 h3) (id_seq (ed_call (fun h => pe_call GDaysLet (hr.mono (by decide)) (by rfl) T.gDaysLet T.FDaysLet.kp (bDaysLet T) .nil pass0 h) .nil rfl (ad_cons (ed_frz (ed_V (pv 3))) (ad_cons (ed_frz (ed_V (pv 8))) ad_nil)))) (gd_tup rfl (gsd_cons (gd_name (pg_name (i := 10) scPairSteps.nd rfl (.inl rfl))) (gsd_cons (gd_name (pg_name (i := 11) scPairSteps.nd rfl (.inl rfl))) gsd_nil)))
  (bd_cons (sd_asg (te := tAsg) (fun h1 h2 => ps_asg h1 h2) (ed_call (fun h => pe_call GStep (hr.mono (by decide)) (by rfl) T.gStep T.FStep.kp (bStep T) .nil pass0 h) .nil rfl (ad_cons (ed_frz (ed_V (pv 0))) (ad_cons (ed_frz (ed_V (pv 1))) (ad_cons (ed_frz (ed_V (pv 5))) (ad_cons (ed_frz (ed_V (pv 6))) (ad_cons (ed_frz (ed_V (pv 10))) ad_nil)))))) (gd_tup rfl (gsd_cons (gd_name (pg_name (i := 12) scPairSteps.nd rfl (.inl rfl))) (gsd_cons (gd_name (pg_name (i := 13) scPairSteps.nd rfl (.inl rfl))) (gsd_cons (gd_name (pg_name (i := 14) scPairSteps.nd rfl (.inl rfl))) gsd_nil)))))
  (bd_cons (sd_asg (te := tAsg) (fun h1 h2 => ps_asg h1 h2) (ed_call (fun h => pe_call GStep (hr.mono (by decide)) (by rfl) T.gStep T.FStep.kp (bStep T) .nil pass0 h) .nil rfl (ad_cons (ed_frz (ed_V (pv 0))) (ad_cons (ed_frz (ed_V (pv 2))) (ad_cons (ed_frz (ed_V (pv 5))) (ad_cons (ed_frz (ed_V (pv 7))) (ad_cons (ed_frz (ed_V (pv 10))) ad_nil)))))) (gd_tup rfl (gsd_cons (gd_name (pg_name (i := 15) scPairSteps.nd rfl (.inl rfl))) (gsd_cons (gd_name (pg_name (i := 16) scPairSteps.nd rfl (.inl rfl))) (gsd_cons (gd_name (pg_name (i := 17) scPairSteps.nd rfl (.inl rfl))) gsd_nil)))))
  (bd_cons (sd_set (fun h => ps_set (i := 18) scPairSteps.nd rfl (.inl rfl) h) (ed_or (ed_cmp (op_neD hr.units) ok_neD (ed_V (pv 12)) (ed_V (pv 15)) (nomark _)) (ed_one (ed_cmp (op_neD hr.units) ok_neD (ed_V (pv 13)) (ed_V (pv 16)) (nomark _)))))
  (bd_one (sd_do (ed_lm (fun h1 h2 => pe_bm PySem.F.plainAttrs_list PySem.F.slot_list_append PySem.F.type_list_append mt_append h1 h2) okl_app (ed_V (pv 9)) (ad_cons (ed_tup (ad_cons (ed_V (pv 10)) (ad_cons (ed_V (pv 18)) (ad_cons (ed_tup (ad_cons (ed_op op_mod ok_mod (ed_op opr_add ok_add (ed_V (pv 5)) ed_int) (ed_fld (na_days T) (ed_V (pv 0)))) (ad_cons (ed_V (pv 14)) (ad_cons (ed_V (pv 17)) (ad_cons (ed_V (pv 11)) ad_nil))))) ad_nil)))) ad_nil))))))))
  (bd_one (sd_ret (ed_V (pv 9)))))))
end L37
set_option Elab.async false
set_option linter.all false
set_option maxRecDepth 100000
set_option maxHeartbeats 4000000
namespace L37
open PySem PySem.Spec PyProof.Rows L2 Rw Fn LamX
def rd_Parting : SF := (sSeq (sPut (fTup 4 (f2 (fC (.int 0)) (f2 (fTup 0 f0) (f2 (fTup 0 f0) (f2 (fCall 1 F_FirstRain [] (f2 (fFrz (fV 3)) f0)) f0))))) (put 4))
  (sSeq (sPut (fLC rd_Search 7 (fCall 5 F_PairSteps [] (f2 (fFrz (fV 0)) (f2 (fFrz (fV 1)) (f2 (fFrz (fV 2)) (f2 (fFrz (fV 3)) (f2 (fFrz (fV 7)) f0)))))) (fV 4)) (f2 (un 2) (f2 (put 5) (f2 (put 6) some))))
  (sRet (fV 6))))
def F_Parting : FT := runF 4 3 rd_Parting
theorem ok_Parting {P : Program} {w : World} {K : PySem.W.Frag} {mg : Str → Option Value} {base : Heap} (T : Txt K mg) (TB : ∀ p ∈ csT T, TabB base mg p.1 p.2) : FnOk P w K mg base CX0 11 T.fParting T.fdParting ["week", "p", "q", "measure"] (spF (evT T w none) 4 F_Parting) := by
  have GFirstRain := ok_FirstRain (P := P) (w := w) (base := base) (fn := none) T
  obtain ⟨ocSearch, odSearch, kVSearch, docSearch, pmSearch, anSearch, cdvSearch, ctSearch, oslSearch, hfdSearch, lkSearch, hcSearch⟩ := T.FSearch.ex
  have hbSearch := bSearch T
  rw [hfdSearch] at lkSearch hbSearch
  have GPairSteps := ok_PairSteps (P := P) (w := w) (base := base) (fn := none) T
  refine fdc_ok T.LParting scParting 3 rfl fun A outer s H Ex hr => ?_
  unfold rd_Parting
  exact (bd_cons (sd_set (fun h => ps_set (i := 4) scParting.nd rfl (.inl rfl) h) (ed_tup (ad_cons ed_int (ad_cons (ed_tup ad_nil) (ad_cons (ed_tup ad_nil) (ad_cons (ed_call (fun h => pe_call GFirstRain (hr.mono (by decide)) (by rfl) T.gFirstRain T.FFirstRain.kp (bFirstRain T) .nil pass0 h) .nil rfl (ad_cons (ed_frz (ed_V (pv 3))) ad_nil)) ad_nil))))))
  (bd_cons (sd_asg (te := tAsg) (fun h1 h2 => ps_asg h1 h2) (ed_lamcall (k := 8) (m := 7) (y := "pair") rfl (ed_V (pv 4)) (by rfl) T.gSearch T.FSearch.kp lkSearch hcSearch hbSearch scSearch rfl (.inl rfl) rfl (fun s0 H1 w' G hr act => bd_Search T G (hr.mono (by decide)) act) (TB _ (T.tmParting)) rfl T.tnParting (tb_uniq T.td T.tnParting) (hr.mono (by decide)) (lamS1_by (sc := defScope sParting) (y := "pair") (by decide +kernel)) (show ¬ ("pair" : Str) ∈ NParting by decide +kernel) rfl (fun _ _ _ _ _ _ => rfl) (fun A outer s H f c' hr => (ed_call (fun h => pe_call GPairSteps (hr.mono (by decide)) (by rfl) T.gPairSteps T.FPairSteps.kp (bPairSteps T) .nil pass0 h) .nil rfl (ad_cons (ed_frz (ed_V (pv 0))) (ad_cons (ed_frz (ed_V (pv 1))) (ad_cons (ed_frz (ed_V (pv 2))) (ad_cons (ed_frz (ed_V (pv 3))) (ad_cons (ed_frz (ed_V (pv 7))) ad_nil)))))))) (gd_tup rfl (gsd_cons (gd_name (pg_name (i := 5) scParting.nd rfl (.inl rfl))) (gsd_cons (gd_name (pg_name (i := 6) scParting.nd rfl (.inl rfl))) gsd_nil))))
  (bd_one (sd_ret (ed_V (pv 6))))))
def rd_Alike : SF := (sRet (fB (oIsN false) (fCall 4 F_Parting [] (f2 (fFrz (fV 0)) (f2 (fFrz (fV 1)) (f2 (fFrz (fV 2)) (f2 (fFrz (fV 3)) f0))))) (fC .non)))
def F_Alike : FT := runF 4 0 rd_Alike
theorem ok_Alike {P : Program} {w : World} {K : PySem.W.Frag} {mg : Str → Option Value} {base : Heap} (T : Txt K mg) (TB : ∀ p ∈ csT T, TabB base mg p.1 p.2) : FnOk P w K mg base CX0 12 T.fAlike T.fdAlike ["week", "p", "q", "measure"] (spF (evT T w none) 4 F_Alike) := by
  have GParting := ok_Parting (P := P) (w := w) (base := base) T TB
  refine fd_ok T.FAlike scAlike 0 rfl fun cdv A outer s H Ex hr => ?_
  unfold rd_Alike
  exact (bd_one (sd_ret (ed_cmp op_isN ok_isN (ed_call (fun h => pe_call GParting (hr.mono (by decide)) (by rfl) T.gParting T.FParting.kp (bParting T) .nil pass0 h) .nil rfl (ad_cons (ed_frz (ed_V (pv 0))) (ad_cons (ed_frz (ed_V (pv 1))) (ad_cons (ed_frz (ed_V (pv 2))) (ad_cons (ed_frz (ed_V (pv 3))) ad_nil))))) ed_non (nomark _))))
def rd_OwnDays : SF := (sRet (fLc (fSq (fV 0)) 1 [1, 2, 3] (f2 (un 3) (f2 (put 1) (f2 (put 2) (f2 (put 3) some)))) gYes (fTup 2 (f2 (fB oSub (fV 2) (fC (.int 1))) (f2 (fV 3) f0)))))
def F_OwnDays : FT := runF 1 3 rd_OwnDays
theorem ok_OwnDays {P : Program} {w : World} {K : PySem.W.Frag} {mg : Str → Option Value} {base : Heap} {fn : Option (Addr × Hp × (Addr → Prop))} (T : Txt K mg) : FnOk P w K mg base CX0 1 T.fOwnDays T.fdOwnDays ["behind"] (spF (evT T w fn) 1 F_OwnDays) := by
  refine fd_ok T.FOwnDays scOwnDays 3 rfl fun cdv A outer s H Ex hr => ?_
  unfold rd_OwnDays
  exact (bd_one (sd_ret (ed_lc (own := [("_", 1), ("days_ago", 2), ("match", 3)]) rfl scOwnDays.nd (id_seq (ed_V (pv 0))) (blkOk_by (own := [("_", 1), ("days_ago", 2), ("match", 3)]) (N := NOwnDays) (sc := defScope sOwnDays) (by decide +kernel)) (fun _ _ _ _ _ => (gd_tup rfl (gsd_cons (gd_name (pg_name (i := 1) scOwnDays.nd rfl (.inl rfl))) (gsd_cons (gd_name (pg_name (i := 2) scOwnDays.nd rfl (.inl rfl))) (gsd_cons (gd_name (pg_name (i := 3) scOwnDays.nd rfl (.inl rfl))) gsd_nil))))) (fun _ _ _ _ _ => tsd_nil) (fun _ _ _ _ _ => (ed_tup (ad_cons (ed_op op_sub ok_sub (ed_V (pv 2)) ed_int) (ad_cons (ed_V (pv 3)) ad_nil)))) (by decide))))
def rd_RaceStep : SF := (sSeq (sPut (fV 2) (f2 (un 3) (f2 (put 5) (f2 (put 6) (f2 (put 7) some)))))
  (sSeq (sPut (fV 3) (f2 (un 2) (f2 (put 8) (f2 (put 9) some))))
  (sSeq (sPut (fV 4) (f2 (un 2) (f2 (put 10) (f2 (put 11) some))))
  (sSeq (sPut (fCall 5 F_Step [] (f2 (fFrz (fV 0)) (f2 (fFrz (fV 8)) (f2 (fFrz (fV 1)) (f2 (fFrz (fV 5)) (f2 (fFrz (fV 9)) f0)))))) (f2 (un 3) (f2 (put 12) (f2 (put 13) (f2 (put 14) some)))))
  (sSeq (sPut (fCall 5 F_Step [] (f2 (fFrz (fV 0)) (f2 (fFrz (fV 10)) (f2 (fFrz (fV 1)) (f2 (fFrz (fV 6)) (f2 (fFrz (fV 11)) f0)))))) (f2 (un 3) (f2 (put 15) (f2 (put 12) (f2 (put 16) some)))))
  (sSeq (sPut (fLstS (sStar (fV 7) (sStar (fV 13) s0))) (put 17))
  (sSeq (sPut (fCall 1 F_OwnDays [] (f2 (fFrz (fV 14)) f0)) (put 18))
  (sSeq (sPut (fCB 1 oAny (f2 (fLc (fSq (fV 15)) 1 [20] (put 20) gYes (fOr (fB (oIn false) (fV 20) (fV 17)) (fB (oIn false) (fV 20) (fV 18)))) f0)) (put 19))
  (sSeq (sPut (fCall 1 F_OwnDays [] (f2 (fFrz (fV 16)) f0)) (put 21))
  (sSeq (sPut (fCB 1 (oSort (.tupf [.int, .int])) (f2 (fLc (fSq (fV 17)) 1 [23, 24] (f2 (un 2) (f2 (put 23) (f2 (put 24) some))) (gE (fB (oIn false) (fTup 2 (f2 (fV 23) (f2 (fV 24) f0))) (fV 21))) (fTup 2 (f2 (fB oAdd (fV 23) (fC (.int 1))) (f2 (fV 24) f0)))) f0)) (put 22))
  (sRet (fTup 2 (f2 (fV 19) (f2 (fTup 3 (f2 (fV 14) (f2 (fV 16) (f2 (fCB 1 oTup (f2 (fV 22) f0)) f0)))) f0))))))))))))))
def F_RaceStep : FT := runF 5 20 rd_RaceStep
theorem ok_RaceStep {P : Program} {w : World} {K : PySem.W.Frag} {mg : Str → Option Value} {base : Heap} {fn : Option (Addr × Hp × (Addr → Prop))} (T : Txt K mg) : FnOk P w K mg base CX0 7 T.fRaceStep T.fdRaceStep ["week", "today", "race", "one", "other"] (spF (evT T w fn) 5 F_RaceStep) := by
  have GStep := ok_Step (P := P) (w := w) (base := base) (fn := fn) T
  have GOwnDays := ok_OwnDays (P := P) (w := w) (base := base) (fn := fn) T
  refine fd_ok T.FRaceStep scRaceStep 20 rfl fun cdv A outer s H Ex hr => ?_
  unfold rd_RaceStep
  exact (bd_cons (sd_asg (te := tAsg) (fun h1 h2 => ps_asg h1 h2) (ed_V (pv 2)) (gd_tup rfl (gsd_cons (gd_name (pg_name (i := 5) scRaceStep.nd rfl (.inl rfl))) (gsd_cons (gd_name (pg_name (i := 6) scRaceStep.nd rfl (.inl rfl))) (gsd_cons (gd_name (pg_name (i := 7) scRaceStep.nd rfl (.inl rfl))) gsd_nil)))))
  (bd_cons (sd_asg (te := tAsg) (fun h1 h2 => ps_asg h1 h2) (ed_V (pv 3)) (gd_tup rfl (gsd_cons (gd_name (pg_name (i := 8) scRaceStep.nd rfl (.inl rfl))) (gsd_cons (gd_name (pg_name (i := 9) scRaceStep.nd rfl (.inl rfl))) gsd_nil))))
  (bd_cons (sd_asg (te := tAsg) (fun h1 h2 => ps_asg h1 h2) (ed_V (pv 4)) (gd_tup rfl (gsd_cons (gd_name (pg_name (i := 10) scRaceStep.nd rfl (.inl rfl))) (gsd_cons (gd_name (pg_name (i := 11) scRaceStep.nd rfl (.inl rfl))) gsd_nil))))
  (bd_cons (sd_asg (te := tAsg) (fun h1 h2 => ps_asg h1 h2) (ed_call (fun h => pe_call GStep (hr.mono (by decide)) (by rfl) T.gStep T.FStep.kp (bStep T) .nil pass0 h) .nil rfl (ad_cons (ed_frz (ed_V (pv 0))) (ad_cons (ed_frz (ed_V (pv 8))) (ad_cons (ed_frz (ed_V (pv 1))) (ad_cons (ed_frz (ed_V (pv 5))) (ad_cons (ed_frz (ed_V (pv 9))) ad_nil)))))) (gd_tup rfl (gsd_cons (gd_name (pg_name (i := 12) scRaceStep.nd rfl (.inl rfl))) (gsd_cons (gd_name (pg_name (i := 13) scRaceStep.nd rfl (.inl rfl))) (gsd_cons (gd_name (pg_name (i := 14) scRaceStep.nd rfl (.inl rfl))) gsd_nil)))))
  (bd_cons (sd_asg (te := tAsg) (fun h1 h2 => ps_asg h1 h2) (ed_call (fun h => pe_call GStep (hr.mono (by decide)) (by rfl) T.gStep T.FStep.kp (bStep T) .nil pass0 h) .nil rfl (ad_cons (ed_frz (ed_V (pv 0))) (ad_cons (ed_frz (ed_V (pv 10))) (ad_cons (ed_frz (ed_V (pv 1))) (ad_cons (ed_frz (ed_V (pv 6))) (ad_cons (ed_frz (ed_V (pv 11))) ad_nil)))))) (gd_tup rfl (gsd_cons (gd_name (pg_name (i := 15) scRaceStep.nd rfl (.inl rfl))) (gsd_cons (gd_name (pg_name (i := 12) scRaceStep.nd rfl (.inl rfl))) (gsd_cons (gd_name (pg_name (i := 16) scRaceStep.nd rfl (.inl rfl))) gsd_nil)))))
  (bd_cons (sd_set (fun h => ps_set (i := 17) scRaceStep.nd rfl (.inr rfl) h) (ed_lstS (asd_star (ed_V (pv 7)) (asd_star (ed_V (pv 13)) asd_nil))))
  (bd_cons (sd_set (fun h => ps_set (i := 18) scRaceStep.nd rfl (.inr rfl) h) (ed_call (fun h => pe_call GOwnDays (hr.mono (by decide)) (by rfl) T.gOwnDays T.FOwnDays.kp (bOwnDays T) .nil pass0 h) .nil rfl (ad_cons (ed_frz (ed_V (pv 14))) ad_nil)))
  (bd_cons (sd_set (fun h => ps_set (i := 19) scRaceStep.nd rfl (.inl rfl) h) (ed_cb (fun h => pe_callB (cr_any rfl) (by rfl) T.m_any (by decide +kernel) h) ok_any (ad_cons (ed_lc (own := [("pair", 20)]) rfl scRaceStep.nd (id_seq (ed_V (pv 15))) (blkOk_by (own := [("pair", 20)]) (N := NRaceStep) (sc := defScope sRaceStep) (by decide +kernel)) (fun _ _ _ _ _ => (gd_name (pg_name (i := 20) scRaceStep.nd rfl (.inl rfl)))) (fun _ _ _ _ _ => tsd_nil) (fun _ _ _ _ _ => (ed_or (ed_cmp (opr_in (hu65 hr)) (ok_in false) (ed_V (pv 20)) (ed_V (pv 17)) (by rfl)) (ed_one (ed_cmp (opr_in (hu65 hr)) (ok_in false) (ed_V (pv 20)) (ed_V (pv 18)) (by rfl))))) (by decide)) ad_nil)))
  (bd_cons (sd_set (fun h => ps_set (i := 21) scRaceStep.nd rfl (.inr rfl) h) (ed_call (fun h => pe_call GOwnDays (hr.mono (by decide)) (by rfl) T.gOwnDays T.FOwnDays.kp (bOwnDays T) .nil pass0 h) .nil rfl (ad_cons (ed_frz (ed_V (pv 16))) ad_nil)))
  (bd_cons (sd_set (fun h => ps_set (i := 22) scRaceStep.nd rfl (.inl rfl) h) (ed_cb (fun h => pe_callB (cr_sortD hr.units) (by rfl) T.m_sorted (by decide +kernel) h) (ok_sort (.tupf [.int, .int])) (ad_cons (ed_lc (own := [("days_ago", 23), ("match", 24)]) rfl scRaceStep.nd (id_seq (ed_V (pv 17))) (blkOk_by (own := [("days_ago", 23), ("match", 24)]) (N := NRaceStep) (sc := defScope sRaceStep) (by decide +kernel)) (fun _ _ _ _ _ => (gd_tup rfl (gsd_cons (gd_name (pg_name (i := 23) scRaceStep.nd rfl (.inl rfl))) (gsd_cons (gd_name (pg_name (i := 24) scRaceStep.nd rfl (.inl rfl))) gsd_nil)))) (fun _ _ _ _ _ => (tsd_one (td_cmp (opr_in (hu65 hr)) (ok_in false) (ed_tup (ad_cons (ed_V (pv 23)) (ad_cons (ed_V (pv 24)) ad_nil))) (ed_V (pv 21)) (by rfl)))) (fun _ _ _ _ _ => (ed_tup (ad_cons (ed_op opr_add ok_add (ed_V (pv 23)) ed_int) (ad_cons (ed_V (pv 24)) ad_nil)))) (by decide)) ad_nil)))
  (bd_one (sd_ret (ed_tup (ad_cons (ed_V (pv 19)) (ad_cons (ed_tup (ad_cons (ed_V (pv 14)) (ad_cons (ed_V (pv 16)) (ad_cons (ed_cb (fun h => pe_callTy call_tuple_of (by rfl) T.m_tuple (by decide +kernel) h) ok_tup (ad_cons (ed_V (pv 22)) ad_nil)) ad_nil)))) ad_nil)))))))))))))))
def rd_RaceSteps : SF := (sSeq (sPut (fV 4) (f2 (un 3) (f2 (put 5) (f2 (put 6) (f2 (put 7) some)))))
  (sSeq (sPut (fLst 0 f0) (put 8))
  (sSeq (sFor (fSq (fCall 2 F_DaysLet [] (f2 (fFrz (fV 3)) (f2 (fFrz (fV 7)) f0)))) 1 (f2 (un 2) (f2 (put 9) (f2 (put 10) some)))
  (sSeq (sPut (fCall 5 F_RaceStep [] (f2 (fFrz (fV 0)) (f2 (fFrz (fV 5)) (f2 (fFrz (fV 6)) (f2 (fFrz (fTup 2 (f2 (fV 1) (f2 (fV 9) f0)))) (f2 (fFrz (fTup 2 (f2 (fV 2) (f2 (fV 9) f0)))) f0)))))) (f2 (un 2) (f2 (put 11) (f2 (put 12) some))))
  (sDo (fLm 1 lApp (fV 8) (f2 (fTup 3 (f2 (fV 9) (f2 (fV 11) (f2 (fTup 3 (f2 (fB oMod (fB oAdd (fV 5) (fC (.int 1))) (fFld ["Week"] "days" (fV 0))) (f2 (fV 12) (f2 (fV 10) f0)))) f0)))) f0)))))
  (sRet (fV 8)))))
def F_RaceSteps : FT := runF 5 8 rd_RaceSteps
theorem ok_RaceSteps {P : Program} {w : World} {K : PySem.W.Frag} {mg : Str → Option Value} {base : Heap} {fn : Option (Addr × Hp × (Addr → Prop))} (T : Txt K mg) : FnOk P w K mg base CX0 8 T.fRaceSteps T.fdRaceSteps ["week", "p", "q", "measure", "state"] (spF (evT T w fn) 5 F_RaceSteps) := by
  have GDaysLet := ok_DaysLet (P := P) (w := w) (base := base) (fn := fn) T
  have GRaceStep := ok_RaceStep (P := P) (w := w) (base := base) (fn := fn) T
  refine fd_ok T.FRaceSteps scRaceSteps 8 rfl fun cdv A outer s H Ex hr => ?_
  unfold rd_RaceSteps
  exact (bd_cons (sd_asg (te := tAsg) (fun h1 h2 => ps_asg h1 h2) (ed_V (pv 4)) (gd_tup rfl (gsd_cons (gd_name (pg_name (i := 5) scRaceSteps.nd rfl (.inl rfl))) (gsd_cons (gd_name (pg_name (i := 6) scRaceSteps.nd rfl (.inl rfl))) (gsd_cons (gd_name (pg_name (i := 7) scRaceSteps.nd rfl (.inl rfl))) gsd_nil)))))
  (bd_cons (sd_set (fun h => ps_set (i := 8) scRaceSteps.nd rfl (.inl rfl) h) (ed_lst ad_nil))
  (bd_cons (sd_for (fun h1 h2 h3 => ps_for PassesOwn.never rfl h1 h2 h3) (id_seq (ed_call (fun h => pe_call GDaysLet (hr.mono (by decide)) (by rfl) T.gDaysLet T.FDaysLet.kp (bDaysLet T) .nil pass0 h) .nil rfl (ad_cons (ed_frz (ed_V (pv 3))) (ad_cons (ed_frz (ed_V (pv 7))) ad_nil)))) (gd_tup rfl (gsd_cons (gd_name (pg_name (i := 9) scRaceSteps.nd rfl (.inl rfl))) (gsd_cons (gd_name (pg_name (i := 10) scRaceSteps.nd rfl (.inl rfl))) gsd_nil)))
  (bd_cons (sd_asg (te := tAsg) (fun h1 h2 => ps_asg h1 h2) (ed_call (fun h => pe_call GRaceStep (hr.mono (by decide)) (by rfl) T.gRaceStep T.FRaceStep.kp (bRaceStep T) .nil pass0 h) .nil rfl (ad_cons (ed_frz (ed_V (pv 0))) (ad_cons (ed_frz (ed_V (pv 5))) (ad_cons (ed_frz (ed_V (pv 6))) (ad_cons (ed_frz (ed_tup (ad_cons (ed_V (pv 1)) (ad_cons (ed_V (pv 9)) ad_nil)))) (ad_cons (ed_frz (ed_tup (ad_cons (ed_V (pv 2)) (ad_cons (ed_V (pv 9)) ad_nil)))) ad_nil)))))) (gd_tup rfl (gsd_cons (gd_name (pg_name (i := 11) scRaceSteps.nd rfl (.inl rfl))) (gsd_cons (gd_name (pg_name (i := 12) scRaceSteps.nd rfl (.inl rfl))) gsd_nil))))
  (bd_one (sd_do (ed_lm (fun h1 h2 => pe_bm PySem.F.plainAttrs_list PySem.F.slot_list_append PySem.F.type_list_append mt_append h1 h2) okl_app (ed_V (pv 8)) (ad_cons (ed_tup (ad_cons (ed_V (pv 9)) (ad_cons (ed_V (pv 11)) (ad_cons (ed_tup (ad_cons (ed_op op_mod ok_mod (ed_op opr_add ok_add (ed_V (pv 5)) ed_int) (ed_fld (na_days T) (ed_V (pv 0)))) (ad_cons (ed_V (pv 12)) (ad_cons (ed_V (pv 10)) ad_nil)))) ad_nil)))) ad_nil))))))
  (bd_one (sd_ret (ed_V (pv 8)))))))
def rd_Later : SF := (sSeq (sPut (fTup 3 (f2 (fC (.int 0)) (f2 (fC tSTART) (f2 (fCall 1 F_FirstRain [] (f2 (fFrz (fV 3)) f0)) f0)))) (put 4))
  (sSeq (sPut (fLC rd_Search 7 (fCall 5 F_RaceSteps [] (f2 (fFrz (fV 0)) (f2 (fFrz (fV 1)) (f2 (fFrz (fV 2)) (f2 (fFrz (fV 3)) (f2 (fFrz (fV 7)) f0)))))) (fV 4)) (f2 (un 2) (f2 (put 5) (f2 (put 6) some))))
  (sRet (fV 6))))
def F_Later : FT := runF 4 3 rd_Later
theorem ok_Later {P : Program} {w : World} {K : PySem.W.Frag} {mg : Str → Option Value} {base : Heap} (T : Txt K mg) (TB : ∀ p ∈ csT T, TabB base mg p.1 p.2) : FnOk P w K mg base CX0 12 T.fLater T.fdLater ["week", "p", "q", "measure"] (spF (evT T w none) 4 F_Later) := by
  have GFirstRain := ok_FirstRain (P := P) (w := w) (base := base) (fn := none) T
  obtain ⟨ocSearch, odSearch, kVSearch, docSearch, pmSearch, anSearch, cdvSearch, ctSearch, oslSearch, hfdSearch, lkSearch, hcSearch⟩ := T.FSearch.ex
  have hbSearch := bSearch T
  rw [hfdSearch] at lkSearch hbSearch
  have GRaceSteps := ok_RaceSteps (P := P) (w := w) (base := base) (fn := none) T
  refine fdc_ok T.LLater scLater 3 rfl fun A outer s H Ex hr => ?_
  unfold rd_Later
  exact (bd_cons (sd_set (fun h => ps_set (i := 4) scLater.nd rfl (.inl rfl) h) (ed_tup (ad_cons ed_int (ad_cons (ed_C (pe_glob (v := .ref T.aSTART) (by rfl) T.gSTART rfl) (rep_START T)) (ad_cons (ed_call (fun h => pe_call GFirstRain (hr.mono (by decide)) (by rfl) T.gFirstRain T.FFirstRain.kp (bFirstRain T) .nil pass0 h) .nil rfl (ad_cons (ed_frz (ed_V (pv 3))) ad_nil)) ad_nil)))))
  (bd_cons (sd_asg (te := tAsg) (fun h1 h2 => ps_asg h1 h2) (ed_lamcall (k := 9) (m := 7) (y := "state") rfl (ed_V (pv 4)) (by rfl) T.gSearch T.FSearch.kp lkSearch hcSearch hbSearch scSearch rfl (.inl rfl) rfl (fun s0 H1 w' G hr act => bd_Search T G (hr.mono (by decide)) act) (TB _ (T.tmLater)) rfl T.tnLater (tb_uniq T.td T.tnLater) (hr.mono (by decide)) (lamS1_by (sc := defScope sLater) (y := "state") (by decide +kernel)) (show ¬ ("state" : Str) ∈ NLater by decide +kernel) rfl (fun _ _ _ _ _ _ => rfl) (fun A outer s H f c' hr => (ed_call (fun h => pe_call GRaceSteps (hr.mono (by decide)) (by rfl) T.gRaceSteps T.FRaceSteps.kp (bRaceSteps T) .nil pass0 h) .nil rfl (ad_cons (ed_frz (ed_V (pv 0))) (ad_cons (ed_frz (ed_V (pv 1))) (ad_cons (ed_frz (ed_V (pv 2))) (ad_cons (ed_frz (ed_V (pv 3))) (ad_cons (ed_frz (ed_V (pv 7))) ad_nil)))))))) (gd_tup rfl (gsd_cons (gd_name (pg_name (i := 5) scLater.nd rfl (.inl rfl))) (gsd_cons (gd_name (pg_name (i := 6) scLater.nd rfl (.inl rfl))) gsd_nil))))
  (bd_one (sd_ret (ed_V (pv 6))))))
def rd_NeverLater : SF := (sRet (fB (oIsN false) (fCall 4 F_Later [] (f2 (fFrz (fV 0)) (f2 (fFrz (fV 1)) (f2 (fFrz (fV 2)) (f2 (fFrz (fV 3)) f0))))) (fC .non)))
def F_NeverLater : FT := runF 4 0 rd_NeverLater
theorem ok_NeverLater {P : Program} {w : World} {K : PySem.W.Frag} {mg : Str → Option Value} {base : Heap} (T : Txt K mg) (TB : ∀ p ∈ csT T, TabB base mg p.1 p.2) : FnOk P w K mg base CX0 13 T.fNeverLater T.fdNeverLater ["week", "p", "q", "measure"] (spF (evT T w none) 4 F_NeverLater) := by
  have GLater := ok_Later (P := P) (w := w) (base := base) T TB
  refine fd_ok T.FNeverLater scNeverLater 0 rfl fun cdv A outer s H Ex hr => ?_
  unfold rd_NeverLater
  exact (bd_one (sd_ret (ed_cmp op_isN ok_isN (ed_call (fun h => pe_call GLater (hr.mono (by decide)) (by rfl) T.gLater T.FLater.kp (bLater T) .nil pass0 h) .nil rfl (ad_cons (ed_frz (ed_V (pv 0))) (ad_cons (ed_frz (ed_V (pv 1))) (ad_cons (ed_frz (ed_V (pv 2))) (ad_cons (ed_frz (ed_V (pv 3))) ad_nil))))) ed_non (nomark _))))
end L37
set_option Elab.async false
set_option linter.all false
set_option maxRecDepth 100000
set_option maxHeartbeats 4000000
namespace L37
open PySem PySem.Spec PyProof.Rows L2 Rw Fn LamX
theorem bd_RuleBut_RuleInit5 {K : PySem.W.Frag} {mg : Str → Option Value} (T : Txt K mg) : ∃ ds, Vals [] ds ∧ Binds K T.fdRuleInit ["self", "gap", "window", "let", "order"] ds :=
  T.FRuleInit.binds1 5 1 (by simp) rfl fun _ _ _ _ _ _ _ us its h1 h2 => match us, its, h1, h2 with | [_, _, _, _, _], [_], _, _ => ⟨_, rfl, rfl⟩
def rd_RuleBut : SF := (sRet (fMake "Rule" 4 F_RuleInit [] (f2 (fFrz (fIf (gE (fB (oIsN false) (fV 1) (fC .non))) (fFld ["Rule"] "gap" (fV 0)) (fV 1))) (f2 (fFrz (fIf (gE (fB (oIsN false) (fV 2) (fC .non))) (fFld ["Rule"] "window" (fV 0)) (fV 2))) (f2 (fFrz (fIf (gE (fB (oIsN false) (fV 3) (fC .non))) (fFld ["Rule"] "let" (fV 0)) (fV 3))) (f2 (fFrz (fIf (gE (fB (oIsN false) (fV 4) (fC .non))) (fFld ["Rule"] "order" (fV 0)) (fV 4))) f0))))))
def F_RuleBut : FT := runF 5 0 rd_RuleBut
theorem ok_RuleBut {P : Program} {w : World} {K : PySem.W.Frag} {mg : Str → Option Value} {base : Heap} {fn : Option (Addr × Hp × (Addr → Prop))} (T : Txt K mg) : FnOk P w K mg base CX0 5 T.fRuleBut T.fdRuleBut ["self", "gap", "window", "let", "order"] (spF (evT T w fn) 5 F_RuleBut) := by
  have GRuleInit := ok_RuleInit (P := P) (w := w) (base := base) (fn := fn) T
  obtain ⟨DRuleInit5, VRuleInit5, BRuleInit5⟩ := bd_RuleBut_RuleInit5 T
  refine fdd_ok T.FRuleBut scRuleBut 0 rfl fun cdv A outer s H Ex hr => ?_
  unfold rd_RuleBut
  exact (bd_one (sd_ret (ed_make (by rfl) (fun h => pe_make T.MRule GRuleInit (hr.mono (by decide)) (by rfl) T.gRule BRuleInit5 VRuleInit5 pass0 h) .nil rfl (ad_cons (ed_frz (ed_if (td_cmp op_isN ok_isN (ed_V (pv 1)) ed_non (nomark _)) (ed_fld (na_gap T) (ed_V (pv 0))) (ed_V (pv 1)))) (ad_cons (ed_frz (ed_if (td_cmp op_isN ok_isN (ed_V (pv 2)) ed_non (nomark _)) (ed_fld (na_window T) (ed_V (pv 0))) (ed_V (pv 2)))) (ad_cons (ed_frz (ed_if (td_cmp op_isN ok_isN (ed_V (pv 3)) ed_non (nomark _)) (ed_fld (na_let T) (ed_V (pv 0))) (ed_V (pv 3)))) (ad_cons (ed_frz (ed_if (td_cmp op_isN ok_isN (ed_V (pv 4)) ed_non (nomark _)) (ed_fld (na_order T) (ed_V (pv 0))) (ed_V (pv 4)))) ad_nil)))))))
theorem kb_OrderCounts_RuleBut1_order {K : PySem.W.Frag} {mg : Str → Option Value} (T : Txt K mg) : KB K T.fdRuleBut ["self", "gap", "window", "let", "order"] 1 ["order"] [0, 2, 3, 4, 1] [.non, .non, .non, .non] :=
  kb_d T.FRuleBut 1 ["order"] [0, 2, 3, 4, 1] (by simp) fun _ _ _ _ _ _ _ us its ws h1 h2 h3 => match us, its, ws, h1, h2, h3 with | [_], [_, _, _, _], [_], _, _, _ => ⟨_, rfl, rfl⟩
def rd_OrderCounts : SF := (sRet (fNot (fCall 4 F_Alike [] (f2 (fFrz (fV 0)) (f2 (fFrz (fMethN0 "Rule" "but" 1 F_RuleBut [.non, .non, .non, .non] [0, 2, 3, 4, 1] (fV 1) (f2 (fC (.str "first")) f0))) (f2 (fFrz (fMethN0 "Rule" "but" 1 F_RuleBut [.non, .non, .non, .non] [0, 2, 3, 4, 1] (fV 1) (f2 (fC (.str "last")) f0))) (f2 (fFrz (fV 2)) f0)))))))
def F_OrderCounts : FT := runF 3 0 rd_OrderCounts
theorem ok_OrderCounts {P : Program} {w : World} {K : PySem.W.Frag} {mg : Str → Option Value} {base : Heap} (T : Txt K mg) (TB : ∀ p ∈ csT T, TabB base mg p.1 p.2) : FnOk P w K mg base CX0 13 T.fOrderCounts T.fdOrderCounts ["week", "rule", "measure"] (spF (evT T w none) 3 F_OrderCounts) := by
  have GAlike := ok_Alike (P := P) (w := w) (base := base) T TB
  have GRuleBut := ok_RuleBut (P := P) (w := w) (base := base) (fn := none) T
  refine fd_ok T.FOrderCounts scOrderCounts 0 rfl fun cdv A outer s H Ex hr => ?_
  unfold rd_OrderCounts
  exact (bd_one (sd_ret (ed_not (ed_call (fun h => pe_call GAlike (hr.mono (by decide)) (by rfl) T.gAlike T.FAlike.kp (bAlike T) .nil pass0 h) .nil rfl (ad_cons (ed_frz (ed_V (pv 0))) (ad_cons (ed_frz (ed_methN0 (ks := ["order"]) (by rfl) (ed_V (pv 1)) T.clRule T.mRuleBut GRuleBut (hr.mono (by decide)) (kb_OrderCounts_RuleBut1_order T) pass0 (.cons (fun _ _ => .non) (.cons (fun _ _ => .non) (.cons (fun _ _ => .non) (.cons (fun _ _ => .non) .nil)))) rfl rfl rfl rfl (kd_cons ed_str kd_nil))) (ad_cons (ed_frz (ed_methN0 (ks := ["order"]) (by rfl) (ed_V (pv 1)) T.clRule T.mRuleBut GRuleBut (hr.mono (by decide)) (kb_OrderCounts_RuleBut1_order T) pass0 (.cons (fun _ _ => .non) (.cons (fun _ _ => .non) (.cons (fun _ _ => .non) (.cons (fun _ _ => .non) .nil)))) rfl rfl rfl rfl (kd_cons ed_str kd_nil))) (ad_cons (ed_frz (ed_V (pv 2))) ad_nil))))))))
def rd_Steps : SF := (sSeq (sPut (fV 3) (f2 (un 4) (f2 (put 4) (f2 (put 5) (f2 (put 6) (f2 (put 7) some))))))
  (sSeq (sPut (fLst 0 f0) (put 8))
  (sSeq (sFor (fSq (fCall 2 F_DaysLet [] (f2 (fFrz (fV 2)) (f2 (fFrz (fV 7)) f0)))) 1 (f2 (un 2) (f2 (put 9) (f2 (put 10) some)))
  (sFor (fSq (fIf (gAnd (gE (fV 9)) (gNot (gE (fV 6)))) (fTup 2 (f2 (fC (.bl false)) (f2 (fC (.bl true)) f0))) (fTup 1 (f2 (fC (.bl false)) f0)))) 1 (put 11)
  (sSeq (sPut (fTup 2 (f2 (fV 1) (f2 (fAnd (fV 9) (fNot (fV 11))) f0))) (put 12))
  (sSeq (sPut (fCall 5 F_RaceStep [] (f2 (fFrz (fV 0)) (f2 (fFrz (fV 4)) (f2 (fFrz (fV 5)) (f2 (fFrz (fV 12)) (f2 (fFrz (fTup 2 (f2 (fV 1) (f2 (fV 9) f0)))) f0)))))) (f2 (un 2) (f2 (put 13) (f2 (put 14) some))))
  (sSeq (sPut (fTup 4 (f2 (fB oMod (fB oAdd (fV 4) (fC (.int 1))) (fFld ["Week"] "days" (fV 0))) (f2 (fV 14) (f2 (fOr (fV 6) (fV 11)) (f2 (fV 10) f0))))) (put 15))
  (sDo (fLm 1 lApp (fV 8) (f2 (fTup 3 (f2 (fTup 2 (f2 (fV 9) (f2 (fV 11) f0))) (f2 (fV 13) (f2 (fV 15) f0)))) f0))))))))
  (sRet (fV 8)))))
def F_Steps : FT := runF 4 12 rd_Steps
theorem ok_Steps {P : Program} {w : World} {K : PySem.W.Frag} {mg : Str → Option Value} {base : Heap} {fn : Option (Addr × Hp × (Addr → Prop))} (T : Txt K mg) : FnOk P w K mg base CX0 8 T.fSteps T.fdSteps ["week", "rule", "measure", "state"] (spF (evT T w fn) 4 F_Steps) := by
  have GDaysLet := ok_DaysLet (P := P) (w := w) (base := base) (fn := fn) T
  have GRaceStep := ok_RaceStep (P := P) (w := w) (base := base) (fn := fn) T
  refine fd_ok T.FSteps scSteps 12 rfl fun cdv A outer s H Ex hr => ?_
  unfold rd_Steps
  exact (bd_cons (sd_asg (te := tAsg) (fun h1 h2 => ps_asg h1 h2) (ed_V (pv 3)) (gd_tup rfl (gsd_cons (gd_name (pg_name (i := 4) scSteps.nd rfl (.inl rfl))) (gsd_cons (gd_name (pg_name (i := 5) scSteps.nd rfl (.inl rfl))) (gsd_cons (gd_name (pg_name (i := 6) scSteps.nd rfl (.inl rfl))) (gsd_cons (gd_name (pg_name (i := 7) scSteps.nd rfl (.inl rfl))) gsd_nil))))))
  (bd_cons (sd_set (fun h => ps_set (i := 8) scSteps.nd rfl (.inl rfl) h) (ed_lst ad_nil))
  (bd_cons (sd_for (fun h1 h2 h3 => ps_for PassesOwn.never rfl h1 h2 h3) (id_seq (ed_call (fun h => pe_call GDaysLet (hr.mono (by decide)) (by rfl) T.gDaysLet T.FDaysLet.kp (bDaysLet T) .nil pass0 h) .nil rfl (ad_cons (ed_frz (ed_V (pv 2))) (ad_cons (ed_frz (ed_V (pv 7))) ad_nil)))) (gd_tup rfl (gsd_cons (gd_name (pg_name (i := 9) scSteps.nd rfl (.inl rfl))) (gsd_cons (gd_name (pg_name (i := 10) scSteps.nd rfl (.inl rfl))) gsd_nil)))
  (bd_one (sd_for (fun h1 h2 h3 => ps_for PassesOwn.never rfl h1 h2 h3) (id_seq (ed_if (WD.td (wd_and (td_val (ed_V (pv 9)) (fun h => pt_val h)) (wd_and1 (td_not (td_val (ed_V (pv 6)) (fun h => pt_val h)))))) (ed_tup (ad_cons ed_bl (ad_cons ed_bl ad_nil))) (ed_tup (ad_cons ed_bl ad_nil)))) (gd_name (pg_name (i := 11) scSteps.nd rfl (.inl rfl)))
  (bd_cons (sd_set (fun h => ps_set (i := 12) scSteps.nd rfl (.inl rfl) h) (ed_tup (ad_cons (ed_V (pv 1)) (ad_cons (ed_and (ed_V (pv 9)) (ed_one (ed_not (ed_V (pv 11))))) ad_nil))))
  (bd_cons (sd_asg (te := tAsg) (fun h1 h2 => ps_asg h1 h2) (ed_call (fun h => pe_call GRaceStep (hr.mono (by decide)) (by rfl) T.gRaceStep T.FRaceStep.kp (bRaceStep T) .nil pass0 h) .nil rfl (ad_cons (ed_frz (ed_V (pv 0))) (ad_cons (ed_frz (ed_V (pv 4))) (ad_cons (ed_frz (ed_V (pv 5))) (ad_cons (ed_frz (ed_V (pv 12))) (ad_cons (ed_frz (ed_tup (ad_cons (ed_V (pv 1)) (ad_cons (ed_V (pv 9)) ad_nil)))) ad_nil)))))) (gd_tup rfl (gsd_cons (gd_name (pg_name (i := 13) scSteps.nd rfl (.inl rfl))) (gsd_cons (gd_name (pg_name (i := 14) scSteps.nd rfl (.inl rfl))) gsd_nil))))
  (bd_cons (sd_set (fun h => ps_set (i := 15) scSteps.nd rfl (.inl rfl) h) (ed_tup (ad_cons (ed_op op_mod ok_mod (ed_op opr_add ok_add (ed_V (pv 4)) ed_int) (ed_fld (na_days T) (ed_V (pv 0)))) (ad_cons (ed_V (pv 14)) (ad_cons (ed_or (ed_V (pv 6)) (ed_one (ed_V (pv 11)))) (ad_cons (ed_V (pv 10)) ad_nil))))))
  (bd_one (sd_do (ed_lm (fun h1 h2 => pe_bm PySem.F.plainAttrs_list PySem.F.slot_list_append PySem.F.type_list_append mt_append h1 h2) okl_app (ed_V (pv 8)) (ad_cons (ed_tup (ad_cons (ed_tup (ad_cons (ed_V (pv 9)) (ad_cons (ed_V (pv 11)) ad_nil))) (ad_cons (ed_V (pv 13)) (ad_cons (ed_V (pv 15)) ad_nil)))) ad_nil))))))))))
  (bd_one (sd_ret (ed_V (pv 8)))))))
def rd_PerverseRain : SF := (sSeq (sPut (fTup 4 (f2 (fC (.int 0)) (f2 (fC tSTART) (f2 (fC (.bl false)) (f2 (fCall 1 F_FirstRain [] (f2 (fFrz (fV 2)) f0)) f0))))) (put 3))
  (sSeq (sPut (fLC rd_Search 7 (fCall 4 F_Steps [] (f2 (fFrz (fV 0)) (f2 (fFrz (fV 1)) (f2 (fFrz (fV 2)) (f2 (fFrz (fV 9)) f0))))) (fV 3)) (f2 (un 2) (f2 (put 4) (f2 (put 5) some))))
  (sSeq (sIf (gE (fB (oIsN false) (fV 5) (fC .non)))
  (sRet (fC .non))
  sNil)
  (sSeq (sPut (fLc (fSq (fV 5)) 1 [4, 7] (f2 (un 2) (f2 (put 4) (f2 (put 7) some))) gYes (fV 7)) (put 6))
  (sRet (fTup 2 (f2 (fCB 1 oTup (f2 (fLc (fSq (fV 5)) 1 [8, 4] (f2 (un 2) (f2 (put 8) (f2 (put 4) some))) gYes (fV 8)) f0)) (f2 (fIndex (fV 6) (f2 (fC (.bl true)) f0)) f0))))))))
def F_PerverseRain : FT := runF 3 6 rd_PerverseRain
theorem ok_PerverseRain {P : Program} {w : World} {K : PySem.W.Frag} {mg : Str → Option Value} {base : Heap} (T : Txt K mg) (TB : ∀ p ∈ csT T, TabB base mg p.1 p.2) : FnOk P w K mg base CX0 12 T.fPerverseRain T.fdPerverseRain ["week", "rule", "measure"] (spF (evT T w none) 3 F_PerverseRain) := by
  have GFirstRain := ok_FirstRain (P := P) (w := w) (base := base) (fn := none) T
  obtain ⟨ocSearch, odSearch, kVSearch, docSearch, pmSearch, anSearch, cdvSearch, ctSearch, oslSearch, hfdSearch, lkSearch, hcSearch⟩ := T.FSearch.ex
  have hbSearch := bSearch T
  rw [hfdSearch] at lkSearch hbSearch
  have GSteps := ok_Steps (P := P) (w := w) (base := base) (fn := none) T
  refine fdc_ok T.LPerverseRain scPerverseRain 6 rfl fun A outer s H Ex hr => ?_
  unfold rd_PerverseRain
  exact (bd_cons (sd_set (fun h => ps_set (i := 3) scPerverseRain.nd rfl (.inl rfl) h) (ed_tup (ad_cons ed_int (ad_cons (ed_C (pe_glob (v := .ref T.aSTART) (by rfl) T.gSTART rfl) (rep_START T)) (ad_cons ed_bl (ad_cons (ed_call (fun h => pe_call GFirstRain (hr.mono (by decide)) (by rfl) T.gFirstRain T.FFirstRain.kp (bFirstRain T) .nil pass0 h) .nil rfl (ad_cons (ed_frz (ed_V (pv 2))) ad_nil)) ad_nil))))))
  (bd_cons (sd_asg (te := tAsg) (fun h1 h2 => ps_asg h1 h2) (ed_lamcall (k := 9) (m := 7) (y := "state") rfl (ed_V (pv 3)) (by rfl) T.gSearch T.FSearch.kp lkSearch hcSearch hbSearch scSearch rfl (.inl rfl) rfl (fun s0 H1 w' G hr act => bd_Search T G (hr.mono (by decide)) act) (TB _ (T.tmPerverseRain)) rfl T.tnPerverseRain (tb_uniq T.td T.tnPerverseRain) (hr.mono (by decide)) (lamS1_by (sc := defScope sPerverseRain) (y := "state") (by decide +kernel)) (show ¬ ("state" : Str) ∈ NPerverseRain by decide +kernel) rfl (fun _ _ _ _ _ _ => rfl) (fun A outer s H f c' hr => (ed_call (fun h => pe_call GSteps (hr.mono (by decide)) (by rfl) T.gSteps T.FSteps.kp (bSteps T) .nil pass0 h) .nil rfl (ad_cons (ed_frz (ed_V (pv 0))) (ad_cons (ed_frz (ed_V (pv 1))) (ad_cons (ed_frz (ed_V (pv 2))) (ad_cons (ed_frz (ed_V (pv 9))) ad_nil))))))) (gd_tup rfl (gsd_cons (gd_name (pg_name (i := 4) scPerverseRain.nd rfl (.inl rfl))) (gsd_cons (gd_name (pg_name (i := 5) scPerverseRain.nd rfl (.inl rfl))) gsd_nil))))
  (bd_cons (sd_if (td_cmp op_isN ok_isN (ed_V (pv 5)) ed_non (nomark _))
  (bd_one (sd_ret ed_non))
  bd_nil)
  (bd_cons (sd_setLc (i := 6) (own := [("_", 4), ("is_dried", 7)]) rfl scPerverseRain.nd rfl rfl (sw_true rfl rfl rfl (by decide +kernel)) (id_seq (ed_V (pv 5))) (blkOk_by (own := [("_", 4), ("is_dried", 7)]) (N := NPerverseRain) (sc := defScope sPerverseRain) (by decide +kernel)) (fun _ _ _ _ _ => (gd_tup rfl (gsd_cons (gd_name (pg_name (i := 4) scPerverseRain.nd rfl (.inl rfl))) (gsd_cons (gd_name (pg_name (i := 7) scPerverseRain.nd rfl (.inl rfl))) gsd_nil)))) (fun _ _ _ _ _ => tsd_nil) (fun _ _ _ _ _ => (ed_V (pv 7))) (by decide))
  (bd_one (sd_ret (ed_tup (ad_cons (ed_cb (fun h => pe_callTy call_tuple_of (by rfl) T.m_tuple (by decide +kernel) h) ok_tup (ad_cons (ed_lc (own := [("is_rainy", 8), ("_", 4)]) rfl scPerverseRain.nd (id_seq (ed_V (pv 5))) (blkOk_by (own := [("is_rainy", 8), ("_", 4)]) (N := NPerverseRain) (sc := defScope sPerverseRain) (by decide +kernel)) (fun _ _ _ _ _ => (gd_tup rfl (gsd_cons (gd_name (pg_name (i := 8) scPerverseRain.nd rfl (.inl rfl))) (gsd_cons (gd_name (pg_name (i := 4) scPerverseRain.nd rfl (.inl rfl))) gsd_nil)))) (fun _ _ _ _ _ => tsd_nil) (fun _ _ _ _ _ => (ed_V (pv 8))) (by decide)) ad_nil)) (ad_cons (ed_index (fun h1 h2 => pe_bm PySem.F.plainAttrs_list PySem.F.slot_list_index PySem.F.type_list_index mt_index h1 h2) (ed_V (pv 6)) (ad_cons ed_bl ad_nil)) ad_nil)))))))))
def rd_Perverse : SF := (sRet (fB (oIsN true) (fCall 3 F_PerverseRain [] (f2 (fFrz (fV 0)) (f2 (fFrz (fV 1)) (f2 (fFrz (fV 2)) f0)))) (fC .non)))
def F_Perverse : FT := runF 3 0 rd_Perverse
theorem ok_Perverse {P : Program} {w : World} {K : PySem.W.Frag} {mg : Str → Option Value} {base : Heap} (T : Txt K mg) (TB : ∀ p ∈ csT T, TabB base mg p.1 p.2) : FnOk P w K mg base CX0 13 T.fPerverse T.fdPerverse ["week", "rule", "measure"] (spF (evT T w none) 3 F_Perverse) := by
  have GPerverseRain := ok_PerverseRain (P := P) (w := w) (base := base) T TB
  refine fd_ok T.FPerverse scPerverse 0 rfl fun cdv A outer s H Ex hr => ?_
  unfold rd_Perverse
  exact (bd_one (sd_ret (ed_cmp op_notN ok_notN (ed_call (fun h => pe_call GPerverseRain (hr.mono (by decide)) (by rfl) T.gPerverseRain T.FPerverseRain.kp (bPerverseRain T) .nil pass0 h) .nil rfl (ad_cons (ed_frz (ed_V (pv 0))) (ad_cons (ed_frz (ed_V (pv 1))) (ad_cons (ed_frz (ed_V (pv 2))) ad_nil)))) ed_non (nomark _))))
theorem bd_Law_RuleInit4 {K : PySem.W.Frag} {mg : Str → Option Value} (T : Txt K mg) : ∃ ds, Vals [.str "first"] ds ∧ Binds K T.fdRuleInit ["self", "gap", "window", "let", "order"] ds :=
  T.FRuleInit.binds1 4 0 (by simp) rfl fun _ _ _ _ _ _ _ us its h1 h2 => match us, its, h1, h2 with | [_, _, _, _], [_], _, _ => ⟨_, rfl, rfl⟩
def rd_Law : SF := (sSeq (sFor (fRg1 (f2 (fCB 2 oMax2 (f2 (fC (.int 1)) (f2 (fCB 2 oMin2 (f2 (fC (.int 3)) (f2 (fCB 1 oLen (f2 (fV 0) f0)) f0))) f0))) f0)) 0 (put 1)
  (sSeq (sPut (fCall 2 F_Box [] (f2 (fFrz (fV 0)) (f2 (fFrz (fV 1)) f0))) (put 2))
  (sSeq (sPut (fB oAdd (fC (.int 2)) (fCall 2 F_Take [] (f2 (fV 2) (f2 (fC (.int 3)) f0)))) (put 3))
  (sSeq (sPar 4 5 (f2 (fMake "Measure" 2 F_MeasureInit [] (f2 (fC (.int 1)) (f2 (fFrz (fV 3)) f0))) (f2 (fMake "Week" 2 F_WeekInit [] (f2 (fC (.int 3)) (f2 (fFrz (fLst 1 (f2 (fTup 3 (f2 (fC (.int 0)) (f2 (fC (.str "ann")) (f2 (fC (.str "bob")) f0)))) f0))) f0))) f0)))
  (sSeq (sPar3 6 7 8 (f2 (fMake "Rule" 3 F_RuleInit [.str "first"] (f2 (fC (.int 1)) (f2 (fC (.int 6)) (f2 (fFrz (fLst 2 (f2 (fC (.int 1)) (f2 (fC (.int 2)) f0)))) f0)))) (f2 (fMake "Rule" 3 F_RuleInit [.str "first"] (f2 (fC (.int 1)) (f2 (fC (.int 6)) (f2 (fFrz (fLst 1 (f2 (fC (.int 2)) f0))) f0)))) (f2 (fMake "Rule" 3 F_RuleInit [.str "first"] (f2 (fC (.int 1)) (f2 (fC (.int 6)) (f2 (fFrz (fLst 0 f0)) f0)))) f0))))
  (sSeq (sIf (gOr (gE (fB (oEqD true) (fCall 4 F_Parting [] (f2 (fFrz (fV 5)) (f2 (fFrz (fV 6)) (f2 (fFrz (fV 7)) (f2 (fFrz (fV 4)) f0))))) (fTup 2 (f2 (fC (.bl true)) (f2 (fC (.bl false)) f0))))) (gE (fCall 4 F_Alike [] (f2 (fFrz (fV 5)) (f2 (fFrz (fV 6)) (f2 (fFrz (fV 7)) (f2 (fFrz (fV 4)) f0)))))))
  (sRet (fC (.bl false)))
  sNil)
  (sSeq (sIf (gOr (gE (fB (oEqD true) (fCall 4 F_Later [] (f2 (fFrz (fV 5)) (f2 (fFrz (fV 7)) (f2 (fFrz (fV 6)) (f2 (fFrz (fV 4)) f0))))) (fTup 2 (f2 (fC (.bl true)) (f2 (fC (.bl false)) f0))))) (gE (fB (oIsB true) (fCall 4 F_NeverLater [] (f2 (fFrz (fV 5)) (f2 (fFrz (fV 6)) (f2 (fFrz (fV 7)) (f2 (fFrz (fV 4)) f0))))) (fC (.bl true)))))
  (sRet (fC (.bl false)))
  sNil)
  (sSeq (sIf (gOr (gE (fB (oEqD true) (fCall 4 F_Later [] (f2 (fFrz (fV 5)) (f2 (fFrz (fV 8)) (f2 (fFrz (fV 7)) (f2 (fFrz (fV 4)) f0))))) (fTup 3 (f2 (fC (.bl true)) (f2 (fC (.bl false)) (f2 (fC (.bl false)) f0)))))) (gE (fB (oIsB true) (fCall 4 F_NeverLater [] (f2 (fFrz (fV 5)) (f2 (fFrz (fV 7)) (f2 (fFrz (fV 8)) (f2 (fFrz (fV 4)) f0))))) (fC (.bl true)))))
  (sRet (fC (.bl false)))
  sNil)
  (sSeq (sIf (gOr (gE (fB (oEqD true) (fCall 4 F_Parting [] (f2 (fFrz (fV 5)) (f2 (fFrz (fV 6)) (f2 (fFrz (fV 8)) (f2 (fFrz (fV 4)) f0))))) (fTup 1 (f2 (fC (.bl true)) f0)))) (gE (fB (oIsB true) (fCall 4 F_NeverLater [] (f2 (fFrz (fV 5)) (f2 (fFrz (fV 8)) (f2 (fFrz (fV 8)) (f2 (fFrz (fV 4)) f0))))) (fC (.bl true)))))
  (sRet (fC (.bl false)))
  sNil)
  (sSeq (sIf (gOr (gE (fB (oIsB true) (fCall 4 F_Alike [] (f2 (fFrz (fV 5)) (f2 (fFrz (fV 6)) (f2 (fFrz (fMake "Rule" 3 F_RuleInit [.str "first"] (f2 (fC (.int 1)) (f2 (fC (.int 2)) (f2 (fFrz (fLst 3 (f2 (fC (.int 2)) (f2 (fC (.int 1)) (f2 (fC (.int 7)) f0))))) f0))))) (f2 (fFrz (fV 4)) f0))))) (fC (.bl true)))) (gE (fCall 3 F_OrderCounts [] (f2 (fFrz (fV 5)) (f2 (fFrz (fV 6)) (f2 (fFrz (fV 4)) f0))))))
  (sRet (fC (.bl false)))
  sNil)
  (sSeq (sIf (gOr (gE (fB (oIsB true) (fCall 4 F_Alike [] (f2 (fFrz (fV 5)) (f2 (fFrz (fV 6)) (f2 (fFrz (fV 8)) (f2 (fFrz (fMake "Measure" 2 F_MeasureInit [] (f2 (fC (.int 0)) (f2 (fFrz (fV 3)) f0)))) f0))))) (fC (.bl true)))) (gE (fCall 3 F_Perverse [] (f2 (fFrz (fV 5)) (f2 (fFrz (fV 6)) (f2 (fFrz (fV 4)) f0))))))
  (sRet (fC (.bl false)))
  sNil)
  (sSeq (sPut (fMake "Week" 2 F_WeekInit [] (f2 (fC (.int 4)) (f2 (fFrz (fLst 3 (f2 (fTup 3 (f2 (fC (.int 0)) (f2 (fC (.str "ann")) (f2 (fC (.str "bob")) f0)))) (f2 (fTup 3 (f2 (fC (.int 0)) (f2 (fC (.str "cyd")) (f2 (fC (.str "dee")) f0)))) (f2 (fTup 3 (f2 (fC (.int 2)) (f2 (fC (.str "ann")) (f2 (fC (.str "cyd")) f0)))) f0))))) f0))) (put 9))
  (sSeq (sIf (gOr (gE (fCall 3 F_OrderCounts [] (f2 (fFrz (fV 9)) (f2 (fFrz (fMake "Rule" 3 F_RuleInit [.str "first"] (f2 (fC (.int 1)) (f2 (fC (.int 6)) (f2 (fFrz (fLst 2 (f2 (fC (.int 1)) (f2 (fC (.int 3)) f0)))) f0))))) (f2 (fFrz (fMake "Measure" 2 F_MeasureInit [] (f2 (fC (.int 2)) (f2 (fC (.int 3)) f0)))) f0))))) (gE (fCall 3 F_OrderCounts [] (f2 (fFrz (fV 9)) (f2 (fFrz (fMake "Rule" 3 F_RuleInit [.str "first"] (f2 (fC (.int 2)) (f2 (fC (.int 6)) (f2 (fFrz (fLst 4 (f2 (fC (.int 0)) (f2 (fC (.int 1)) (f2 (fC (.int 2)) (f2 (fC (.int 3)) f0)))))) f0))))) (f2 (fFrz (fV 4)) f0))))))
  (sRet (fC (.bl false)))
  sNil)
  (sSeq (sIf (gE (fB (oIsN true) (fCall 3 F_PerverseRain [] (f2 (fFrz (fV 9)) (f2 (fFrz (fMake "Rule" 3 F_RuleInit [.str "first"] (f2 (fC (.int 1)) (f2 (fC (.int 6)) (f2 (fFrz (fLst 2 (f2 (fC (.int 1)) (f2 (fC (.int 3)) f0)))) f0))))) (f2 (fFrz (fMake "Measure" 2 F_MeasureInit [] (f2 (fC (.int 0)) (f2 (fFrz (fV 3)) f0)))) f0)))) (fC .non)))
  (sRet (fC (.bl false)))
  sNil)
  (sSeq (sPut (fMake "Week" 2 F_WeekInit [] (f2 (fC (.int 5)) (f2 (fFrz (fLst 3 (f2 (fTup 3 (f2 (fC (.int 0)) (f2 (fC (.str "ann")) (f2 (fC (.str "bob")) f0)))) (f2 (fTup 3 (f2 (fC (.int 1)) (f2 (fC (.str "ann")) (f2 (fC (.str "cyd")) f0)))) (f2 (fTup 3 (f2 (fC (.int 2)) (f2 (fC (.str "cyd")) (f2 (fC (.str "dee")) f0)))) f0))))) f0))) (put 10))
  (sSeq (sIf (gE (fB (oIsB true) (fCall 3 F_Perverse [] (f2 (fFrz (fV 10)) (f2 (fFrz (fMake "Rule" 3 F_RuleInit [.str "first"] (f2 (fC (.int 1)) (f2 (fC (.int 6)) (f2 (fFrz (fTup 2 (f2 (fC (.int 3)) (f2 (fC (.int 4)) f0)))) f0))))) (f2 (fFrz (fMake "Measure" 2 F_MeasureInit [] (f2 (fC (.int 2)) (f2 (fC (.int 2)) f0)))) f0)))) (fC (.bl true))))
  (sRet (fC (.bl false)))
  sNil)
  (sIf (gE (fB (oEqD true) (fCall 3 F_PerverseRain [] (f2 (fFrz (fV 10)) (f2 (fFrz (fMake "Rule" 3 F_RuleInit [.str "first"] (f2 (fC (.int 1)) (f2 (fC (.int 6)) (f2 (fFrz (fTup 2 (f2 (fC (.int 3)) (f2 (fC (.int 4)) f0)))) f0))))) (f2 (fFrz (fMake "Measure" 2 F_MeasureInit [] (f2 (fC (.int 2)) (f2 (fC (.int 2)) f0)))) f0)))) (fTup 2 (f2 (fTup 4 (f2 (fC (.bl true)) (f2 (fC (.bl true)) (f2 (fC (.bl true)) (f2 (fC (.bl false)) f0))))) (f2 (fC (.int 0)) f0)))))
  (sRet (fC (.bl false)))
  sNil)))))))))))))))))
  (sRet (fC (.bl true))))
def F_Law : FT := runF 1 10 rd_Law
theorem ok_Law {P : Program} {w : World} {K : PySem.W.Frag} {mg : Str → Option Value} {base : Heap} (T : Txt K mg) (TB : ∀ p ∈ csT T, TabB base mg p.1 p.2) : FnOk P w K mg base CX0 14 T.fLaw T.fdLaw ["_law_script"] (spF (evT T w none) 1 F_Law) := by
  have GBox := ok_Box (P := P) (w := w) (base := base) (fn := none) T
  have GTake := ok_Take (P := P) (w := w) (base := base) (fn := none) T
  have GMeasureInit := ok_MeasureInit (P := P) (w := w) (base := base) (fn := none) T
  have GWeekInit := ok_WeekInit (P := P) (w := w) (base := base) (fn := none) T
  have GRuleInit := ok_RuleInit (P := P) (w := w) (base := base) (fn := none) T
  have GParting := ok_Parting (P := P) (w := w) (base := base) T TB
  have GAlike := ok_Alike (P := P) (w := w) (base := base) T TB
  have GLater := ok_Later (P := P) (w := w) (base := base) T TB
  have GNeverLater := ok_NeverLater (P := P) (w := w) (base := base) T TB
  have GOrderCounts := ok_OrderCounts (P := P) (w := w) (base := base) T TB
  have GPerverse := ok_Perverse (P := P) (w := w) (base := base) T TB
  have GPerverseRain := ok_PerverseRain (P := P) (w := w) (base := base) T TB
  obtain ⟨DRuleInit4, VRuleInit4, BRuleInit4⟩ := bd_Law_RuleInit4 T
  refine fd_ok T.FLaw scLaw 10 rfl fun cdv A outer s H Ex hr => ?_
  unfold rd_Law
  exact (bd_cons (sd_for (fun h1 h2 h3 => ps_for PassesOwn.never rfl h1 h2 h3) (id_rg1 (fun h => pi_range1 (by rfl) T.m_range h) (ad_cons (ed_cb (fun h => pe_callB (call_max2 rfl) (by rfl) T.m_max (by decide +kernel) h) ok_max2 (ad_cons ed_int (ad_cons (ed_cb (fun h => pe_callB (call_min2 rfl) (by rfl) T.m_min (by decide +kernel) h) ok_min2 (ad_cons ed_int (ad_cons (ed_cb (fun h => pe_callB call_len (by rfl) T.m_len (by decide +kernel) h) ok_len (ad_cons (ed_V (pv 0)) ad_nil)) ad_nil))) ad_nil))) ad_nil)) (gd_name (pg_name (i := 1) scLaw.nd rfl (.inl rfl)))
  (bd_cons (sd_set (fun h => ps_set (i := 2) scLaw.nd rfl (.inl rfl) h) (ed_call (fun h => pe_call GBox (hr.mono (by decide)) (by rfl) T.gBox T.FBox.kp (bBox T) .nil pass0 h) .nil rfl (ad_cons (ed_frz (ed_V (pv 0))) (ad_cons (ed_frz (ed_V (pv 1))) ad_nil))))
  (bd_cons (sd_set (fun h => ps_set (i := 3) scLaw.nd rfl (.inl rfl) h) (ed_op opr_add ok_add ed_int (ed_call (fun h => pe_call GTake (hr.mono (by decide)) (by rfl) T.gTake T.FTake.kp (bTake T) .nil pass0 h) .nil rfl (ad_cons (ed_V (pv 2)) (ad_cons ed_int ad_nil)))))
  (bd_cons (sd_par (fun h => ps_par (i := 4) (j := 5) rfl scLaw.nd rfl rfl (by decide) rfl rfl h (by rfl)) rfl (ad_cons (ed_make (by rfl) (fun h => pe_make T.MMeasure GMeasureInit (hr.mono (by decide)) (by rfl) T.gMeasure (bMeasureInit T) .nil pass0 h) .nil rfl (ad_cons ed_int (ad_cons (ed_frz (ed_V (pv 3))) ad_nil))) (ad_cons (ed_make (by rfl) (fun h => pe_make T.MWeek GWeekInit (hr.mono (by decide)) (by rfl) T.gWeek (bWeekInit T) .nil pass0 h) .nil rfl (ad_cons ed_int (ad_cons (ed_frz (ed_lst (ad_cons (ed_tup (ad_cons ed_int (ad_cons ed_str (ad_cons ed_str ad_nil)))) ad_nil))) ad_nil))) ad_nil)))
  (bd_cons (sd_par3 (fun h => ps_par3 (i := 6) (j := 7) (l := 8) rfl scLaw.nd rfl rfl rfl (by decide) (by decide) (by decide) rfl rfl rfl h (by rfl)) rfl (ad_cons (ed_make (by rfl) (fun h => pe_make T.MRule GRuleInit (hr.mono (by decide)) (by rfl) T.gRule BRuleInit4 VRuleInit4 pass0 h) (.cons (fun _ _ => .str _) .nil) rfl (ad_cons ed_int (ad_cons ed_int (ad_cons (ed_frz (ed_lst (ad_cons ed_int (ad_cons ed_int ad_nil)))) ad_nil)))) (ad_cons (ed_make (by rfl) (fun h => pe_make T.MRule GRuleInit (hr.mono (by decide)) (by rfl) T.gRule BRuleInit4 VRuleInit4 pass0 h) (.cons (fun _ _ => .str _) .nil) rfl (ad_cons ed_int (ad_cons ed_int (ad_cons (ed_frz (ed_lst (ad_cons ed_int ad_nil))) ad_nil)))) (ad_cons (ed_make (by rfl) (fun h => pe_make T.MRule GRuleInit (hr.mono (by decide)) (by rfl) T.gRule BRuleInit4 VRuleInit4 pass0 h) (.cons (fun _ _ => .str _) .nil) rfl (ad_cons ed_int (ad_cons ed_int (ad_cons (ed_frz (ed_lst ad_nil)) ad_nil)))) ad_nil))))
  (bd_cons (sd_if (WD.td (wd_or (td_cmp (op_neD hr.units) ok_neD (ed_call (fun h => pe_call GParting (hr.mono (by decide)) (by rfl) T.gParting T.FParting.kp (bParting T) .nil pass0 h) .nil rfl (ad_cons (ed_frz (ed_V (pv 5))) (ad_cons (ed_frz (ed_V (pv 6))) (ad_cons (ed_frz (ed_V (pv 7))) (ad_cons (ed_frz (ed_V (pv 4))) ad_nil))))) (ed_tup (ad_cons ed_bl (ad_cons ed_bl ad_nil))) (nomark _)) (wd_or1 (td_val (ed_call (fun h => pe_call GAlike (hr.mono (by decide)) (by rfl) T.gAlike T.FAlike.kp (bAlike T) .nil pass0 h) .nil rfl (ad_cons (ed_frz (ed_V (pv 5))) (ad_cons (ed_frz (ed_V (pv 6))) (ad_cons (ed_frz (ed_V (pv 7))) (ad_cons (ed_frz (ed_V (pv 4))) ad_nil))))) (fun h => pt_val h)))))
  (bd_one (sd_ret ed_bl))
  bd_nil)
  (bd_cons (sd_if (WD.td (wd_or (td_cmp (op_neD hr.units) ok_neD (ed_call (fun h => pe_call GLater (hr.mono (by decide)) (by rfl) T.gLater T.FLater.kp (bLater T) .nil pass0 h) .nil rfl (ad_cons (ed_frz (ed_V (pv 5))) (ad_cons (ed_frz (ed_V (pv 7))) (ad_cons (ed_frz (ed_V (pv 6))) (ad_cons (ed_frz (ed_V (pv 4))) ad_nil))))) (ed_tup (ad_cons ed_bl (ad_cons ed_bl ad_nil))) (nomark _)) (wd_or1 (td_cmp op_notB ok_notB (ed_call (fun h => pe_call GNeverLater (hr.mono (by decide)) (by rfl) T.gNeverLater T.FNeverLater.kp (bNeverLater T) .nil pass0 h) .nil rfl (ad_cons (ed_frz (ed_V (pv 5))) (ad_cons (ed_frz (ed_V (pv 6))) (ad_cons (ed_frz (ed_V (pv 7))) (ad_cons (ed_frz (ed_V (pv 4))) ad_nil))))) ed_bl (nomark _)))))
  (bd_one (sd_ret ed_bl))
  bd_nil)
  (bd_cons (sd_if (WD.td (wd_or (td_cmp (op_neD hr.units) ok_neD (ed_call (fun h => pe_call GLater (hr.mono (by decide)) (by rfl) T.gLater T.FLater.kp (bLater T) .nil pass0 h) .nil rfl (ad_cons (ed_frz (ed_V (pv 5))) (ad_cons (ed_frz (ed_V (pv 8))) (ad_cons (ed_frz (ed_V (pv 7))) (ad_cons (ed_frz (ed_V (pv 4))) ad_nil))))) (ed_tup (ad_cons ed_bl (ad_cons ed_bl (ad_cons ed_bl ad_nil)))) (nomark _)) (wd_or1 (td_cmp op_notB ok_notB (ed_call (fun h => pe_call GNeverLater (hr.mono (by decide)) (by rfl) T.gNeverLater T.FNeverLater.kp (bNeverLater T) .nil pass0 h) .nil rfl (ad_cons (ed_frz (ed_V (pv 5))) (ad_cons (ed_frz (ed_V (pv 7))) (ad_cons (ed_frz (ed_V (pv 8))) (ad_cons (ed_frz (ed_V (pv 4))) ad_nil))))) ed_bl (nomark _)))))
  (bd_one (sd_ret ed_bl))
  bd_nil)
  (bd_cons (sd_if (WD.td (wd_or (td_cmp (op_neD hr.units) ok_neD (ed_call (fun h => pe_call GParting (hr.mono (by decide)) (by rfl) T.gParting T.FParting.kp (bParting T) .nil pass0 h) .nil rfl (ad_cons (ed_frz (ed_V (pv 5))) (ad_cons (ed_frz (ed_V (pv 6))) (ad_cons (ed_frz (ed_V (pv 8))) (ad_cons (ed_frz (ed_V (pv 4))) ad_nil))))) (ed_tup (ad_cons ed_bl ad_nil)) (nomark _)) (wd_or1 (td_cmp op_notB ok_notB (ed_call (fun h => pe_call GNeverLater (hr.mono (by decide)) (by rfl) T.gNeverLater T.FNeverLater.kp (bNeverLater T) .nil pass0 h) .nil rfl (ad_cons (ed_frz (ed_V (pv 5))) (ad_cons (ed_frz (ed_V (pv 8))) (ad_cons (ed_frz (ed_V (pv 8))) (ad_cons (ed_frz (ed_V (pv 4))) ad_nil))))) ed_bl (nomark _)))))
  (bd_one (sd_ret ed_bl))
  bd_nil)
  (bd_cons (sd_if (WD.td (wd_or (td_cmp op_notB ok_notB (ed_call (fun h => pe_call GAlike (hr.mono (by decide)) (by rfl) T.gAlike T.FAlike.kp (bAlike T) .nil pass0 h) .nil rfl (ad_cons (ed_frz (ed_V (pv 5))) (ad_cons (ed_frz (ed_V (pv 6))) (ad_cons (ed_frz (ed_make (by rfl) (fun h => pe_make T.MRule GRuleInit (hr.mono (by decide)) (by rfl) T.gRule BRuleInit4 VRuleInit4 pass0 h) (.cons (fun _ _ => .str _) .nil) rfl (ad_cons ed_int (ad_cons ed_int (ad_cons (ed_frz (ed_lst (ad_cons ed_int (ad_cons ed_int (ad_cons ed_int ad_nil))))) ad_nil))))) (ad_cons (ed_frz (ed_V (pv 4))) ad_nil))))) ed_bl (nomark _)) (wd_or1 (td_val (ed_call (fun h => pe_call GOrderCounts (hr.mono (by decide)) (by rfl) T.gOrderCounts T.FOrderCounts.kp (bOrderCounts T) .nil pass0 h) .nil rfl (ad_cons (ed_frz (ed_V (pv 5))) (ad_cons (ed_frz (ed_V (pv 6))) (ad_cons (ed_frz (ed_V (pv 4))) ad_nil)))) (fun h => pt_val h)))))
  (bd_one (sd_ret ed_bl))
  bd_nil)
  (bd_cons (sd_if (WD.td (wd_or (td_cmp op_notB ok_notB (ed_call (fun h => pe_call GAlike (hr.mono (by decide)) (by rfl) T.gAlike T.FAlike.kp (bAlike T) .nil pass0 h) .nil rfl (ad_cons (ed_frz (ed_V (pv 5))) (ad_cons (ed_frz (ed_V (pv 6))) (ad_cons (ed_frz (ed_V (pv 8))) (ad_cons (ed_frz (ed_make (by rfl) (fun h => pe_make T.MMeasure GMeasureInit (hr.mono (by decide)) (by rfl) T.gMeasure (bMeasureInit T) .nil pass0 h) .nil rfl (ad_cons ed_int (ad_cons (ed_frz (ed_V (pv 3))) ad_nil)))) ad_nil))))) ed_bl (nomark _)) (wd_or1 (td_val (ed_call (fun h => pe_call GPerverse (hr.mono (by decide)) (by rfl) T.gPerverse T.FPerverse.kp (bPerverse T) .nil pass0 h) .nil rfl (ad_cons (ed_frz (ed_V (pv 5))) (ad_cons (ed_frz (ed_V (pv 6))) (ad_cons (ed_frz (ed_V (pv 4))) ad_nil)))) (fun h => pt_val h)))))
  (bd_one (sd_ret ed_bl))
  bd_nil)
  (bd_cons (sd_set (fun h => ps_set (i := 9) scLaw.nd rfl (.inl rfl) h) (ed_make (by rfl) (fun h => pe_make T.MWeek GWeekInit (hr.mono (by decide)) (by rfl) T.gWeek (bWeekInit T) .nil pass0 h) .nil rfl (ad_cons ed_int (ad_cons (ed_frz (ed_lst (ad_cons (ed_tup (ad_cons ed_int (ad_cons ed_str (ad_cons ed_str ad_nil)))) (ad_cons (ed_tup (ad_cons ed_int (ad_cons ed_str (ad_cons ed_str ad_nil)))) (ad_cons (ed_tup (ad_cons ed_int (ad_cons ed_str (ad_cons ed_str ad_nil)))) ad_nil))))) ad_nil))))
  (bd_cons (sd_if (WD.td (wd_or (td_val (ed_call (fun h => pe_call GOrderCounts (hr.mono (by decide)) (by rfl) T.gOrderCounts T.FOrderCounts.kp (bOrderCounts T) .nil pass0 h) .nil rfl (ad_cons (ed_frz (ed_V (pv 9))) (ad_cons (ed_frz (ed_make (by rfl) (fun h => pe_make T.MRule GRuleInit (hr.mono (by decide)) (by rfl) T.gRule BRuleInit4 VRuleInit4 pass0 h) (.cons (fun _ _ => .str _) .nil) rfl (ad_cons ed_int (ad_cons ed_int (ad_cons (ed_frz (ed_lst (ad_cons ed_int (ad_cons ed_int ad_nil)))) ad_nil))))) (ad_cons (ed_frz (ed_make (by rfl) (fun h => pe_make T.MMeasure GMeasureInit (hr.mono (by decide)) (by rfl) T.gMeasure (bMeasureInit T) .nil pass0 h) .nil rfl (ad_cons ed_int (ad_cons ed_int ad_nil)))) ad_nil)))) (fun h => pt_val h)) (wd_or1 (td_val (ed_call (fun h => pe_call GOrderCounts (hr.mono (by decide)) (by rfl) T.gOrderCounts T.FOrderCounts.kp (bOrderCounts T) .nil pass0 h) .nil rfl (ad_cons (ed_frz (ed_V (pv 9))) (ad_cons (ed_frz (ed_make (by rfl) (fun h => pe_make T.MRule GRuleInit (hr.mono (by decide)) (by rfl) T.gRule BRuleInit4 VRuleInit4 pass0 h) (.cons (fun _ _ => .str _) .nil) rfl (ad_cons ed_int (ad_cons ed_int (ad_cons (ed_frz (ed_lst (ad_cons ed_int (ad_cons ed_int (ad_cons ed_int (ad_cons ed_int ad_nil)))))) ad_nil))))) (ad_cons (ed_frz (ed_V (pv 4))) ad_nil)))) (fun h => pt_val h)))))
  (bd_one (sd_ret ed_bl))
  bd_nil)
  (bd_cons (sd_if (td_cmp op_notN ok_notN (ed_call (fun h => pe_call GPerverseRain (hr.mono (by decide)) (by rfl) T.gPerverseRain T.FPerverseRain.kp (bPerverseRain T) .nil pass0 h) .nil rfl (ad_cons (ed_frz (ed_V (pv 9))) (ad_cons (ed_frz (ed_make (by rfl) (fun h => pe_make T.MRule GRuleInit (hr.mono (by decide)) (by rfl) T.gRule BRuleInit4 VRuleInit4 pass0 h) (.cons (fun _ _ => .str _) .nil) rfl (ad_cons ed_int (ad_cons ed_int (ad_cons (ed_frz (ed_lst (ad_cons ed_int (ad_cons ed_int ad_nil)))) ad_nil))))) (ad_cons (ed_frz (ed_make (by rfl) (fun h => pe_make T.MMeasure GMeasureInit (hr.mono (by decide)) (by rfl) T.gMeasure (bMeasureInit T) .nil pass0 h) .nil rfl (ad_cons ed_int (ad_cons (ed_frz (ed_V (pv 3))) ad_nil)))) ad_nil)))) ed_non (nomark _))
  (bd_one (sd_ret ed_bl))
  bd_nil)
  (bd_cons (sd_set (fun h => ps_set (i := 10) scLaw.nd rfl (.inl rfl) h) (ed_make (by rfl) (fun h => pe_make T.MWeek GWeekInit (hr.mono (by decide)) (by rfl) T.gWeek (bWeekInit T) .nil pass0 h) .nil rfl (ad_cons ed_int (ad_cons (ed_frz (ed_lst (ad_cons (ed_tup (ad_cons ed_int (ad_cons ed_str (ad_cons ed_str ad_nil)))) (ad_cons (ed_tup (ad_cons ed_int (ad_cons ed_str (ad_cons ed_str ad_nil)))) (ad_cons (ed_tup (ad_cons ed_int (ad_cons ed_str (ad_cons ed_str ad_nil)))) ad_nil))))) ad_nil))))
  (bd_cons (sd_if (td_cmp op_notB ok_notB (ed_call (fun h => pe_call GPerverse (hr.mono (by decide)) (by rfl) T.gPerverse T.FPerverse.kp (bPerverse T) .nil pass0 h) .nil rfl (ad_cons (ed_frz (ed_V (pv 10))) (ad_cons (ed_frz (ed_make (by rfl) (fun h => pe_make T.MRule GRuleInit (hr.mono (by decide)) (by rfl) T.gRule BRuleInit4 VRuleInit4 pass0 h) (.cons (fun _ _ => .str _) .nil) rfl (ad_cons ed_int (ad_cons ed_int (ad_cons (ed_frz (ed_tup (ad_cons ed_int (ad_cons ed_int ad_nil)))) ad_nil))))) (ad_cons (ed_frz (ed_make (by rfl) (fun h => pe_make T.MMeasure GMeasureInit (hr.mono (by decide)) (by rfl) T.gMeasure (bMeasureInit T) .nil pass0 h) .nil rfl (ad_cons ed_int (ad_cons ed_int ad_nil)))) ad_nil)))) ed_bl (nomark _))
  (bd_one (sd_ret ed_bl))
  bd_nil)
  (bd_one (sd_if (td_cmp (op_neD hr.units) ok_neD (ed_call (fun h => pe_call GPerverseRain (hr.mono (by decide)) (by rfl) T.gPerverseRain T.FPerverseRain.kp (bPerverseRain T) .nil pass0 h) .nil rfl (ad_cons (ed_frz (ed_V (pv 10))) (ad_cons (ed_frz (ed_make (by rfl) (fun h => pe_make T.MRule GRuleInit (hr.mono (by decide)) (by rfl) T.gRule BRuleInit4 VRuleInit4 pass0 h) (.cons (fun _ _ => .str _) .nil) rfl (ad_cons ed_int (ad_cons ed_int (ad_cons (ed_frz (ed_tup (ad_cons ed_int (ad_cons ed_int ad_nil)))) ad_nil))))) (ad_cons (ed_frz (ed_make (by rfl) (fun h => pe_make T.MMeasure GMeasureInit (hr.mono (by decide)) (by rfl) T.gMeasure (bMeasureInit T) .nil pass0 h) .nil rfl (ad_cons ed_int (ad_cons ed_int ad_nil)))) ad_nil)))) (ed_tup (ad_cons (ed_tup (ad_cons ed_bl (ad_cons ed_bl (ad_cons ed_bl (ad_cons ed_bl ad_nil))))) (ad_cons ed_int ad_nil))) (nomark _))
  (bd_one (sd_ret ed_bl))
  bd_nil))))))))))))))))))
  (bd_one (sd_ret ed_bl)))
end L37
set_option Elab.async false
set_option linter.all false
set_option maxRecDepth 100000
set_option maxHeartbeats 2000000
namespace L37
open PySem PySem.Spec PyProof.Rows L2 Rw Fn LamX
theorem take_ok (a b c m : Int) (h0 : 0 < m) (h1 : m < 1073741824) : ∃ a' b' c' r, F_Take [.io (.lst [.int a, .int b, .int c]), .val (.int m)] = some ([.io (.lst [.int a', .int b', .int c']), .no], .val (.int r)) ∧ 0 ≤ r ∧ r < m := by
  by_cases h : 0 < a
  · refine ⟨a / m, b, c, a % m, ?_, Int.emod_nonneg _ (by omega), Int.emod_lt_of_pos _ h0⟩
    unfold F_Take runF rd_Take
    simp [sSeq, sIf, gE, fB, o2, fV, fC, pp, fz, Fn.pb, f2, f0, Sl.tree, ixN, Sl.own?, tl1, fzN, oGt, oLt, oIb, oIx, atI, oMod, oIc, pos, oInt, fCB, ppN, sPut, put, put1, nz, noAli, gSubL, sRet, rv, outs, ioOf, sNil, oAdd, oMul, mulB, oDiv, divB, oLen, oNeE, fLst, fit, sizeLine, h, h0, h1]
  · unfold F_Take runF rd_Take
    simp [sSeq, sIf, gE, fB, o2, fV, fC, pp, fz, Fn.pb, f2, f0, Sl.tree, ixN, Sl.own?, tl1, fzN, oGt, oLt, oIb, oIx, atI, oMod, oIc, pos, oInt, fCB, ppN, sPut, put, put1, nz, noAli, gSubL, sRet, rv, outs, ioOf, sNil, oAdd, oMul, mulB, oDiv, divB, oLen, oNeE, fLst, fit, sizeLine, h, h0, h1]
    exact ⟨_, _, _, _, ⟨⟨rfl, rfl, rfl⟩, rfl⟩, Int.emod_nonneg _ (by omega), Int.emod_lt_of_pos _ h0⟩
def bx1 : SF := (sPut (fB oAdd (fB oMul (fC (.int 6917)) (fV 1)) (fC (.int 157))) (put 2))
def bx2 : SF := (sIf (gE (fB oLt (fV 1) (fCB 1 oLen (f2 (fV 0) f0))))
  (sPut (fCB 1 oAbs (f2 (fB oIx (fV 0) (fV 1)) f0)) (put 2))
  (sIf (gE (fB oGt (fCB 1 oLen (f2 (fV 0) f0)) (fC (.int 0))))
  (sPut (fB oAdd (fV 2) (fB oMul (fB oMod (fCB 1 oInt (f2 (fCB 1 oAbs (f2 (fCB 1 oInt (f2 (fB oIx (fV 0) (fB oMod (fCB 1 oInt (f2 (fV 1) f0)) (fCB 1 oLen (f2 (fV 0) f0)))) f0)) f0)) f0)) (fC (.int 2147483629))) (fC (.int 69389)))) (put 2))
  sNil))
def bx3 : SF := (sPut (fB oAdd (fB oMod (fCB 1 oInt (f2 (fB oAdd (fB oMul (fB oMod (fCB 1 oInt (f2 (fV 2) f0)) (fC (.int 2147483629))) (fC (.int 48271))) (fB oMul (fC (.int 40709)) (fV 1))) f0)) (fC (.int 2147483629))) (fC (.int 1))) (put 3))
def bx4 : SF := (sRet (fLst 3 (f2 (fB oIx (fLst 2 (f2 (fC (.int 0)) (f2 (fV 2) f0))) (fCB 1 oInt (f2 (fB oGe (fV 2) (fB oPow (fC (.int 10)) (fC (.int 18)))) f0))) (f2 (fV 3) (f2 (fC (.int 0)) f0)))))
theorem bx_eq : rd_Box = sSeq bx1 (sSeq bx2 (sSeq bx3 bx4)) := rfl
theorem bx34 (v : Sl) (k cell : Int) : ∃ x y, (sSeq bx3 bx4) ⟨[v, .val (.int k), .val (.int cell), .no], []⟩ = some (.rt ⟨[v, .val (.int k), .val (.int cell), .val (.int y)], [.own (.lst [.int x, .int y, .int 0])]⟩) := by
  unfold bx3 bx4
  by_cases h : 1000000000000000000 ≤ cell
  · simp [sSeq, sIf, gE, fB, o2, fV, fC, pp, fz, Fn.pb, f2, f0, Sl.tree, ixN, Sl.own?, tl1, fzN, oGt, oLt, oIb, oIx, atI, oMod, oIc, pos, oInt, fCB, ppN, sPut, put, put1, nz, noAli, gSubL, sRet, rv, outs, ioOf, sNil, oAdd, oMul, mulB, oDiv, divB, oLen, oNeE, fLst, fit, sizeLine, oGe, oPow, powB, h]
  · simp [sSeq, sIf, gE, fB, o2, fV, fC, pp, fz, Fn.pb, f2, f0, Sl.tree, ixN, Sl.own?, tl1, fzN, oGt, oLt, oIb, oIx, atI, oMod, oIc, pos, oInt, fCB, ppN, sPut, put, put1, nz, noAli, gSubL, sRet, rv, outs, ioOf, sNil, oAdd, oMul, mulB, oDiv, divB, oLen, oNeE, fLst, fit, sizeLine, oGe, oPow, powB, h]
theorem bx2_ok (b : Bool) (ns : List Int) (k cell : Int) (h0 : 0 ≤ k) : ∃ cell', bx2 ⟨[.val (scrT b ns), .val (.int k), .val (.int cell), .no], []⟩ = some (.nx ⟨[.val (scrT b ns), .val (.int k), .val (.int cell'), .no], []⟩) := by
  unfold bx2
  cases b <;> dsimp only [scrT]
  all_goals
    by_cases h : k < ns.length
    · have hi : ns[k.toNat]? = some (ns[k.toNat]'(by omega)) := List.getElem?_eq_getElem (by omega)
      simp [sSeq, sIf, gE, fB, o2, fV, fC, pp, fz, Fn.pb, f2, f0, Sl.tree, ixN, Sl.own?, tl1, fzN, oGt, oLt, oIb, oIx, atI, oMod, oIc, pos, oInt, fCB, ppN, sPut, put, put1, nz, noAli, gSubL, sRet, rv, outs, ioOf, sNil, oAdd, oMul, mulB, oDiv, divB, oLen, oNeE, fLst, fit, sizeLine, h, h0, oAbs, oI1, hi]
    · by_cases hp : 0 < ns.length
      · have q0 : 0 ≤ k % (ns.length : Int) := Int.emod_nonneg _ (by omega)
        have q1 : k % (ns.length : Int) < ns.length := Int.emod_lt_of_pos _ (by omega)
        have hi : ns[(k % (ns.length : Int)).toNat]? = some (ns[(k % (ns.length : Int)).toNat]'(by omega)) := List.getElem?_eq_getElem (by omega)
        simp [sSeq, sIf, gE, fB, o2, fV, fC, pp, fz, Fn.pb, f2, f0, Sl.tree, ixN, Sl.own?, tl1, fzN, oGt, oLt, oIb, oIx, atI, oMod, oIc, pos, oInt, fCB, ppN, sPut, put, put1, nz, noAli, gSubL, sRet, rv, outs, ioOf, sNil, oAdd, oMul, mulB, oDiv, divB, oLen, oNeE, fLst, fit, sizeLine, h, oAbs, oI1, hp, hi, q0, q1]
      · simp [sSeq, sIf, gE, fB, o2, fV, fC, pp, fz, Fn.pb, f2, f0, Sl.tree, ixN, Sl.own?, tl1, fzN, oGt, oLt, oIb, oIx, atI, oMod, oIc, pos, oInt, fCB, ppN, sPut, put, put1, nz, noAli, gSubL, sRet, rv, outs, ioOf, sNil, oAdd, oMul, mulB, oDiv, divB, oLen, oNeE, fLst, fit, sizeLine, h, oAbs, oI1, hp]
theorem box_ok (b : Bool) (ns : List Int) (k : Int) (h0 : 0 ≤ k) : ∃ x y, F_Box [.val (scrT b ns), .val (.int k)] = some ([.no, .no], .own (.lst [.int x, .int y, .int 0])) := by
  have e1 : bx1 ⟨[.val (scrT b ns), .val (.int k), .no, .no], []⟩ = some (.nx ⟨[.val (scrT b ns), .val (.int k), .val (.int (6917 * k + 157)), .no], []⟩) := by
    unfold bx1
    simp [sSeq, sIf, gE, fB, o2, fV, fC, pp, fz, Fn.pb, f2, f0, Sl.tree, ixN, Sl.own?, tl1, fzN, oGt, oLt, oIb, oIx, atI, oMod, oIc, pos, oInt, fCB, ppN, sPut, put, put1, nz, noAli, gSubL, sRet, rv, outs, ioOf, sNil, oAdd, oMul, mulB, oDiv, divB, oLen, oNeE, fLst, fit, sizeLine]
  obtain ⟨cell, e2⟩ := bx2_ok b ns k (6917 * k + 157) h0
  obtain ⟨x, y, e3⟩ := bx34 (.val (scrT b ns)) k cell
  have e : rd_Box ⟨[.val (scrT b ns), .val (.int k)] ++ List.replicate 2 .no, []⟩ = some (.rt ⟨[.val (scrT b ns), .val (.int k), .val (.int cell), .val (.int y)], [.own (.lst [.int x, .int y, .int 0])]⟩) := by
    rw [bx_eq]
    have e5 : (⟨[.val (scrT b ns), .val (.int k)] ++ List.replicate 2 .no, []⟩ : Z) = ⟨[.val (scrT b ns), .val (.int k), .no, .no], []⟩ := rfl
    rw [e5, sSeq_nx e1, sSeq_nx e2]
    exact e3
  refine ⟨x, y, ?_⟩
  unfold F_Box runF
  rw [e]
  rfl
end L37
set_option Elab.async false
set_option linter.all false
set_option maxRecDepth 100000
set_option maxHeartbeats 4000000
namespace L37
open PySem PySem.Spec PyProof.Rows L2 Rw Fn LamX
def lgR : IF := (fRg1 (f2 (fCB 2 oMax2 (f2 (fC (.int 1)) (f2 (fCB 2 oMin2 (f2 (fC (.int 3)) (f2 (fCB 1 oLen (f2 (fV 0) f0)) f0))) f0))) f0))
def lg0 : SF := (sPut (fCall 2 F_Box [] (f2 (fFrz (fV 0)) (f2 (fFrz (fV 1)) f0))) (put 2))
def lg1 : SF := (sPut (fB oAdd (fC (.int 2)) (fCall 2 F_Take [] (f2 (fV 2) (f2 (fC (.int 3)) f0)))) (put 3))
def lg2 : SF := (sPar 4 5 (f2 (fMake "Measure" 2 F_MeasureInit [] (f2 (fC (.int 1)) (f2 (fFrz (fV 3)) f0))) (f2 (fMake "Week" 2 F_WeekInit [] (f2 (fC (.int 3)) (f2 (fFrz (fLst 1 (f2 (fTup 3 (f2 (fC (.int 0)) (f2 (fC (.str "ann")) (f2 (fC (.str "bob")) f0)))) f0))) f0))) f0)))
def lg3 : SF := (sPar3 6 7 8 (f2 (fMake "Rule" 3 F_RuleInit [.str "first"] (f2 (fC (.int 1)) (f2 (fC (.int 6)) (f2 (fFrz (fLst 2 (f2 (fC (.int 1)) (f2 (fC (.int 2)) f0)))) f0)))) (f2 (fMake "Rule" 3 F_RuleInit [.str "first"] (f2 (fC (.int 1)) (f2 (fC (.int 6)) (f2 (fFrz (fLst 1 (f2 (fC (.int 2)) f0))) f0)))) (f2 (fMake "Rule" 3 F_RuleInit [.str "first"] (f2 (fC (.int 1)) (f2 (fC (.int 6)) (f2 (fFrz (fLst 0 f0)) f0)))) f0))))
def lg4 : SF := (sIf (gOr (gE (fB (oEqD true) (fCall 4 F_Parting [] (f2 (fFrz (fV 5)) (f2 (fFrz (fV 6)) (f2 (fFrz (fV 7)) (f2 (fFrz (fV 4)) f0))))) (fTup 2 (f2 (fC (.bl true)) (f2 (fC (.bl false)) f0))))) (gE (fCall 4 F_Alike [] (f2 (fFrz (fV 5)) (f2 (fFrz (fV 6)) (f2 (fFrz (fV 7)) (f2 (fFrz (fV 4)) f0)))))))
  (sRet (fC (.bl false)))
  sNil)
def lg5 : SF := (sIf (gOr (gE (fB (oEqD true) (fCall 4 F_Later [] (f2 (fFrz (fV 5)) (f2 (fFrz (fV 7)) (f2 (fFrz (fV 6)) (f2 (fFrz (fV 4)) f0))))) (fTup 2 (f2 (fC (.bl true)) (f2 (fC (.bl false)) f0))))) (gE (fB (oIsB true) (fCall 4 F_NeverLater [] (f2 (fFrz (fV 5)) (f2 (fFrz (fV 6)) (f2 (fFrz (fV 7)) (f2 (fFrz (fV 4)) f0))))) (fC (.bl true)))))
  (sRet (fC (.bl false)))
  sNil)
def lg6 : SF := (sIf (gOr (gE (fB (oEqD true) (fCall 4 F_Later [] (f2 (fFrz (fV 5)) (f2 (fFrz (fV 8)) (f2 (fFrz (fV 7)) (f2 (fFrz (fV 4)) f0))))) (fTup 3 (f2 (fC (.bl true)) (f2 (fC (.bl false)) (f2 (fC (.bl false)) f0)))))) (gE (fB (oIsB true) (fCall 4 F_NeverLater [] (f2 (fFrz (fV 5)) (f2 (fFrz (fV 7)) (f2 (fFrz (fV 8)) (f2 (fFrz (fV 4)) f0))))) (fC (.bl true)))))
  (sRet (fC (.bl false)))
  sNil)
def lg7 : SF := (sIf (gOr (gE (fB (oEqD true) (fCall 4 F_Parting [] (f2 (fFrz (fV 5)) (f2 (fFrz (fV 6)) (f2 (fFrz (fV 8)) (f2 (fFrz (fV 4)) f0))))) (fTup 1 (f2 (fC (.bl true)) f0)))) (gE (fB (oIsB true) (fCall 4 F_NeverLater [] (f2 (fFrz (fV 5)) (f2 (fFrz (fV 8)) (f2 (fFrz (fV 8)) (f2 (fFrz (fV 4)) f0))))) (fC (.bl true)))))
  (sRet (fC (.bl false)))
  sNil)
def lg8 : SF := (sIf (gOr (gE (fB (oIsB true) (fCall 4 F_Alike [] (f2 (fFrz (fV 5)) (f2 (fFrz (fV 6)) (f2 (fFrz (fMake "Rule" 3 F_RuleInit [.str "first"] (f2 (fC (.int 1)) (f2 (fC (.int 2)) (f2 (fFrz (fLst 3 (f2 (fC (.int 2)) (f2 (fC (.int 1)) (f2 (fC (.int 7)) f0))))) f0))))) (f2 (fFrz (fV 4)) f0))))) (fC (.bl true)))) (gE (fCall 3 F_OrderCounts [] (f2 (fFrz (fV 5)) (f2 (fFrz (fV 6)) (f2 (fFrz (fV 4)) f0))))))
  (sRet (fC (.bl false)))
  sNil)
def lg9 : SF := (sIf (gOr (gE (fB (oIsB true) (fCall 4 F_Alike [] (f2 (fFrz (fV 5)) (f2 (fFrz (fV 6)) (f2 (fFrz (fV 8)) (f2 (fFrz (fMake "Measure" 2 F_MeasureInit [] (f2 (fC (.int 0)) (f2 (fFrz (fV 3)) f0)))) f0))))) (fC (.bl true)))) (gE (fCall 3 F_Perverse [] (f2 (fFrz (fV 5)) (f2 (fFrz (fV 6)) (f2 (fFrz (fV 4)) f0))))))
  (sRet (fC (.bl false)))
  sNil)
def lg10 : SF := (sPut (fMake "Week" 2 F_WeekInit [] (f2 (fC (.int 4)) (f2 (fFrz (fLst 3 (f2 (fTup 3 (f2 (fC (.int 0)) (f2 (fC (.str "ann")) (f2 (fC (.str "bob")) f0)))) (f2 (fTup 3 (f2 (fC (.int 0)) (f2 (fC (.str "cyd")) (f2 (fC (.str "dee")) f0)))) (f2 (fTup 3 (f2 (fC (.int 2)) (f2 (fC (.str "ann")) (f2 (fC (.str "cyd")) f0)))) f0))))) f0))) (put 9))
def lg11 : SF := (sIf (gOr (gE (fCall 3 F_OrderCounts [] (f2 (fFrz (fV 9)) (f2 (fFrz (fMake "Rule" 3 F_RuleInit [.str "first"] (f2 (fC (.int 1)) (f2 (fC (.int 6)) (f2 (fFrz (fLst 2 (f2 (fC (.int 1)) (f2 (fC (.int 3)) f0)))) f0))))) (f2 (fFrz (fMake "Measure" 2 F_MeasureInit [] (f2 (fC (.int 2)) (f2 (fC (.int 3)) f0)))) f0))))) (gE (fCall 3 F_OrderCounts [] (f2 (fFrz (fV 9)) (f2 (fFrz (fMake "Rule" 3 F_RuleInit [.str "first"] (f2 (fC (.int 2)) (f2 (fC (.int 6)) (f2 (fFrz (fLst 4 (f2 (fC (.int 0)) (f2 (fC (.int 1)) (f2 (fC (.int 2)) (f2 (fC (.int 3)) f0)))))) f0))))) (f2 (fFrz (fV 4)) f0))))))
  (sRet (fC (.bl false)))
  sNil)
def lg12 : SF := (sIf (gE (fB (oIsN true) (fCall 3 F_PerverseRain [] (f2 (fFrz (fV 9)) (f2 (fFrz (fMake "Rule" 3 F_RuleInit [.str "first"] (f2 (fC (.int 1)) (f2 (fC (.int 6)) (f2 (fFrz (fLst 2 (f2 (fC (.int 1)) (f2 (fC (.int 3)) f0)))) f0))))) (f2 (fFrz (fMake "Measure" 2 F_MeasureInit [] (f2 (fC (.int 0)) (f2 (fFrz (fV 3)) f0)))) f0)))) (fC .non)))
  (sRet (fC (.bl false)))
  sNil)
def lg13 : SF := (sPut (fMake "Week" 2 F_WeekInit [] (f2 (fC (.int 5)) (f2 (fFrz (fLst 3 (f2 (fTup 3 (f2 (fC (.int 0)) (f2 (fC (.str "ann")) (f2 (fC (.str "bob")) f0)))) (f2 (fTup 3 (f2 (fC (.int 1)) (f2 (fC (.str "ann")) (f2 (fC (.str "cyd")) f0)))) (f2 (fTup 3 (f2 (fC (.int 2)) (f2 (fC (.str "cyd")) (f2 (fC (.str "dee")) f0)))) f0))))) f0))) (put 10))
def lg14 : SF := (sIf (gE (fB (oIsB true) (fCall 3 F_Perverse [] (f2 (fFrz (fV 10)) (f2 (fFrz (fMake "Rule" 3 F_RuleInit [.str "first"] (f2 (fC (.int 1)) (f2 (fC (.int 6)) (f2 (fFrz (fTup 2 (f2 (fC (.int 3)) (f2 (fC (.int 4)) f0)))) f0))))) (f2 (fFrz (fMake "Measure" 2 F_MeasureInit [] (f2 (fC (.int 2)) (f2 (fC (.int 2)) f0)))) f0)))) (fC (.bl true))))
  (sRet (fC (.bl false)))
  sNil)
def lg15 : SF := (sIf (gE (fB (oEqD true) (fCall 3 F_PerverseRain [] (f2 (fFrz (fV 10)) (f2 (fFrz (fMake "Rule" 3 F_RuleInit [.str "first"] (f2 (fC (.int 1)) (f2 (fC (.int 6)) (f2 (fFrz (fTup 2 (f2 (fC (.int 3)) (f2 (fC (.int 4)) f0)))) f0))))) (f2 (fFrz (fMake "Measure" 2 F_MeasureInit [] (f2 (fC (.int 2)) (f2 (fC (.int 2)) f0)))) f0)))) (fTup 2 (f2 (fTup 4 (f2 (fC (.bl true)) (f2 (fC (.bl true)) (f2 (fC (.bl true)) (f2 (fC (.bl false)) f0))))) (f2 (fC (.int 0)) f0)))))
  (sRet (fC (.bl false)))
  sNil)
def lgBody : SF := (sSeq lg0 (sSeq lg1 (sSeq lg2 (sSeq lg3 (sSeq lg4 (sSeq lg5 (sSeq lg6 (sSeq lg7 (sSeq lg8 (sSeq lg9 (sSeq lg10 (sSeq lg11 (sSeq lg12 (sSeq lg13 (sSeq lg14 lg15)))))))))))))))
theorem lg_eq : rd_Law = sSeq (sFor lgR 0 (put 1) lgBody) (sRet (fC (.bl true))) := rfl
end L37
set_option Elab.async false
set_option linter.all false
set_option maxRecDepth 100000
set_option maxHeartbeats 4000000
namespace L37
open PySem PySem.Spec PyProof.Rows L2 Rw Fn LamX
def twoT : T := (.obj "Week" ["days", "matches"] [(.int 4), (.tup [(.tup [(.int 0), (.str "ann"), (.str "bob")]), (.tup [(.int 0), (.str "cyd"), (.str "dee")]), (.tup [(.int 2), (.str "ann"), (.str "cyd")])])])
def roT : T := (.obj "Rule" ["gap", "window", "let", "order"] [(.int 1), (.int 6), (.tup [(.int 1), (.int 3)]), (.str "first")])
def rpT : T := (.obj "Rule" ["gap", "window", "let", "order"] [(.int 2), (.int 6), (.tup [(.int 0), (.int 1), (.int 2), (.int 3)]), (.str "first")])
def moT : T := (.obj "Measure" ["most", "span"] [(.int 2), (.int 3)])
theorem oc1 : F_OrderCounts [.val twoT, .val roT, .val moT] = some ([.no, .no, .no], .val (.bl false)) := by kernel_rfl
def wetT2 : T := (.obj "Measure" ["most", "span"] [(.int 1), (.int 2)])
theorem oc2_2 : F_OrderCounts [.val twoT, .val rpT, .val wetT2] = some ([.no, .no, .no], .val (.bl false)) := by kernel_rfl
def wetT3 : T := (.obj "Measure" ["most", "span"] [(.int 1), (.int 3)])
theorem oc2_3 : F_OrderCounts [.val twoT, .val rpT, .val wetT3] = some ([.no, .no, .no], .val (.bl false)) := by kernel_rfl
def wetT4 : T := (.obj "Measure" ["most", "span"] [(.int 1), (.int 4)])
theorem oc2_4 : F_OrderCounts [.val twoT, .val rpT, .val wetT4] = some ([.no, .no, .no], .val (.bl false)) := by kernel_rfl
def oA1 : EF := (f2 (fFrz (fV 9)) (f2 (fFrz (fMake "Rule" 3 F_RuleInit [.str "first"] (f2 (fC (.int 1)) (f2 (fC (.int 6)) (f2 (fFrz (fLst 2 (f2 (fC (.int 1)) (f2 (fC (.int 3)) f0)))) f0))))) (f2 (fFrz (fMake "Measure" 2 F_MeasureInit [] (f2 (fC (.int 2)) (f2 (fC (.int 3)) f0)))) f0)))
def oA2 : EF := (f2 (fFrz (fV 9)) (f2 (fFrz (fMake "Rule" 3 F_RuleInit [.str "first"] (f2 (fC (.int 2)) (f2 (fC (.int 6)) (f2 (fFrz (fLst 4 (f2 (fC (.int 0)) (f2 (fC (.int 1)) (f2 (fC (.int 2)) (f2 (fC (.int 3)) f0)))))) f0))))) (f2 (fFrz (fV 4)) f0)))
theorem lg11_eq : lg11 = sIf (gOr (gE (fCall 3 F_OrderCounts [] oA1)) (gE (fCall 3 F_OrderCounts [] oA2))) (sRet (fC (.bl false))) sNil := rfl
theorem oA1_ok (x0 x1 x2 x3 x5 x6 x7 x8 x10 x4 : Sl) : oA1 ⟨[x0, x1, x2, x3, x4, x5, x6, x7, x8, .own twoT, x10], []⟩ = some ⟨[x0, x1, x2, x3, x4, x5, x6, x7, x8, .val twoT, x10], [.val moT, .val roT, .val twoT]⟩ := by kernel_rfl
theorem oA2_ok (x0 x1 x2 x3 x5 x6 x7 x8 x10 : Sl) (wt : T) : oA2 ⟨[x0, x1, x2, x3, .val wt, x5, x6, x7, x8, .val twoT, x10], []⟩ = some ⟨[x0, x1, x2, x3, .val wt, x5, x6, x7, x8, .val twoT, x10], [.val wt, .val rpT, .val twoT]⟩ := by kernel_rfl
theorem q11_2 {x0 x1 x2 x3 x5 x6 x7 x8 x10 : Sl} : lg11 ⟨[x0, x1, x2, x3, .val wetT2, x5, x6, x7, x8, .own twoT, x10], []⟩ = some (.nx ⟨[x0, x1, x2, x3, .val wetT2, x5, x6, x7, x8, .val twoT, x10], []⟩) := by
  rw [lg11_eq, sIf_f (gOr_f (gE_ok (b := false) (k := []) (fCall_3 (k := []) (oA1_ok x0 x1 x2 x3 x5 x6 x7 x8 x10 _) oc1)) (gE_ok (b := false) (k := []) (fCall_3 (k := []) (oA2_ok x0 x1 x2 x3 x5 x6 x7 x8 x10 wetT2) oc2_2)))]
  rfl
theorem q11_3 {x0 x1 x2 x3 x5 x6 x7 x8 x10 : Sl} : lg11 ⟨[x0, x1, x2, x3, .val wetT3, x5, x6, x7, x8, .own twoT, x10], []⟩ = some (.nx ⟨[x0, x1, x2, x3, .val wetT3, x5, x6, x7, x8, .val twoT, x10], []⟩) := by
  rw [lg11_eq, sIf_f (gOr_f (gE_ok (b := false) (k := []) (fCall_3 (k := []) (oA1_ok x0 x1 x2 x3 x5 x6 x7 x8 x10 _) oc1)) (gE_ok (b := false) (k := []) (fCall_3 (k := []) (oA2_ok x0 x1 x2 x3 x5 x6 x7 x8 x10 wetT3) oc2_3)))]
  rfl
theorem q11_4 {x0 x1 x2 x3 x5 x6 x7 x8 x10 : Sl} : lg11 ⟨[x0, x1, x2, x3, .val wetT4, x5, x6, x7, x8, .own twoT, x10], []⟩ = some (.nx ⟨[x0, x1, x2, x3, .val wetT4, x5, x6, x7, x8, .val twoT, x10], []⟩) := by
  rw [lg11_eq, sIf_f (gOr_f (gE_ok (b := false) (k := []) (fCall_3 (k := []) (oA1_ok x0 x1 x2 x3 x5 x6 x7 x8 x10 _) oc1)) (gE_ok (b := false) (k := []) (fCall_3 (k := []) (oA2_ok x0 x1 x2 x3 x5 x6 x7 x8 x10 wetT4) oc2_4)))]
  rfl
end L37
set_option Elab.async false
set_option linter.all false
set_option maxRecDepth 100000
set_option maxHeartbeats 4000000
namespace L37
open PySem PySem.Spec PyProof.Rows L2 Rw Fn LamX
def sc1 : SF := (sPut (fDisp1 (fV 0) (fC .non)) (put 2))
def sc2 : SF := (sPut (fLst 1 (f2 (fV 0) f0)) (put 3))
def gW : TF := (gTr (fV 3))
def sw1 : SF := (sPut (fLst 0 f0) (put 4))
def iL : IF := (fSq (fV 3))
def gL : GF := (put 5)
def swB (G : FT) : SF := (sFor (fSq (fAct 1 G (fV 5))) 1 (f2 (un 3) (f2 (put 6) (f2 (put 7) (f2 (put 8) some))))
  (sSeq (sIf (gE (fV 7))
  (sRet (fTup 2 (f2 (fV 2) (f2 (fTupS (sStar (fCall 2 F_MarksTo [] (f2 (fV 2) (f2 (fFrz (fV 5)) f0))) (s1 (fV 6) s0))) f0))))
  sNil)
  (sIf (gE (fB (oInDic true) (fV 8) (fV 2)))
  (sSeq (sPut (fTup 2 (f2 (fV 5) (f2 (fV 6) f0))) (gDput (fV 2) (fV 8)))
  (sDo (fLm 1 lApp (fV 4) (f2 (fV 8) f0))))
  sNil)))
def sIn (G : FT) : SF := sFor iL 1 gL (swB G)
def sw3 : SF := (sPut (fV 4) (put 3))
def swW (G : FT) : SF := sSeq sw1 (sSeq (sIn G) sw3)
def sc4 : SF := (sRet (fTup 2 (f2 (fV 2) (f2 (fC .non) f0))))
theorem search_eq (G : FT) : rd_Search G = sSeq sc1 (sSeq sc2 (sSeq (sWh gW (swW G) 100000) sc4)) := rfl
end L37
set_option Elab.async false
set_option linter.all false
set_option maxRecDepth 100000
set_option maxHeartbeats 4000000
namespace L37
open PySem PySem.Spec PyProof.Rows L2 Rw Fn LamX
def kn0 : T := .tup [(.tup [(.int 0), (.str "ann"), (.str "bob")]), (.tup [(.int 1), (.str "ann"), (.str "cyd")]), (.tup [(.int 2), (.str "cyd"), (.str "dee")])]
def kn1 : T := .obj "Rule" ["gap", "window", "let", "order"] [(.int 1), (.int 6), (.tup [(.int 3), (.int 4)]), (.str "first")]
def kn2 : T := .obj "Measure" ["most", "span"] [(.int 2), (.int 2)]
def kn3 : T := .tup [(.int 0), (.tup [(.tup []), (.tup []), (.tup [])]), (.bl false), (.tup [(.bl false)])]
def kn4 : T := .tup [(.int 1), (.tup [(.tup []), (.tup []), (.tup [])]), (.bl false), (.tup [(.bl false)])]
def kn5 : T := .tup [(.tup [(.int 2), (.int 1), (.int 0)])]
def kn6 : T := .tup [(.int 1), (.tup [kn5, kn5, (.tup [])]), (.bl false), (.tup [(.bl true)])]
def kn7 : T := .tup [(.int 1), (.tup [(.tup []), kn5, (.tup [])]), (.bl true), (.tup [(.bl true)])]
def kn8 : T := .tup [kn3, (.tup [(.bl false), (.bl false)])]
def kn9 : T := .tup [kn3, (.tup [(.bl true), (.bl false)])]
def kn10 : T := .tup [kn3, (.tup [(.bl true), (.bl true)])]
def kn11 : T := .tup [(.int 2), (.tup [(.tup []), (.tup []), (.tup [])]), (.bl false), (.tup [(.bl false)])]
def kn12 : T := .tup [(.tup [(.int 1), (.int 1), (.int 1)])]
def kn13 : T := .tup [(.int 2), (.tup [kn12, kn12, (.tup [])]), (.bl false), (.tup [(.bl true)])]
def kn14 : T := .tup [(.int 2), (.tup [(.tup []), kn12, (.tup [])]), (.bl true), (.tup [(.bl true)])]
def kn15 : T := .tup [kn4, (.tup [(.bl false), (.bl false)])]
def kn16 : T := .tup [kn4, (.tup [(.bl true), (.bl false)])]
def kn17 : T := .tup [kn4, (.tup [(.bl true), (.bl true)])]
def kn18 : T := .dic [kn3, kn4, kn6, kn7, kn11, kn13, kn14] [.non, kn8, kn9, kn10, kn15, kn16, kn17]
def kn19 : T := .tup [(.tup [(.int 1), (.int 2), (.int 0)])]
def kn20 : T := .tup [(.int 2), (.tup [kn19, kn19, (.tup [])]), (.bl false), (.tup [(.bl false)])]
def kn21 : T := .tup [(.tup [(.int 1), (.int 2), (.int 0)]), (.tup [(.int 2), (.int 1), (.int 1)])]
def kn22 : T := .tup [(.int 2), (.tup [kn21, kn21, (.tup [])]), (.bl false), (.tup [(.bl true)])]
def kn23 : T := .tup [(.int 2), (.tup [kn19, kn21, (.tup [])]), (.bl true), (.tup [(.bl true)])]
def kn24 : T := .tup [kn6, (.tup [(.bl false), (.bl false)])]
def kn25 : T := .tup [kn6, (.tup [(.bl true), (.bl false)])]
def kn26 : T := .tup [kn6, (.tup [(.bl true), (.bl true)])]
def kn27 : T := .dic [kn3, kn4, kn6, kn7, kn11, kn13, kn14, kn20, kn22, kn23] [.non, kn8, kn9, kn10, kn15, kn16, kn17, kn24, kn25, kn26]
def kn28 : T := .tup [(.int 2), (.tup [(.tup []), kn19, (.tup [])]), (.bl true), (.tup [(.bl false)])]
def kn29 : T := .tup [(.int 2), (.tup [kn12, kn21, (.tup [])]), (.bl true), (.tup [(.bl true)])]
def kn30 : T := .tup [kn7, (.tup [(.bl false), (.bl false)])]
def kn31 : T := .tup [kn7, (.tup [(.bl true), (.bl false)])]
def kn32 : T := .dic [kn3, kn4, kn6, kn7, kn11, kn13, kn14, kn20, kn22, kn23, kn28, kn29] [.non, kn8, kn9, kn10, kn15, kn16, kn17, kn24, kn25, kn26, kn30, kn31]
def kn33 : T := .tup [(.int 3), (.tup [(.tup []), (.tup []), (.tup [])]), (.bl false), (.tup [(.bl false)])]
def kn34 : T := .tup [(.tup [(.int 0), (.int 1), (.int 2)])]
def kn35 : T := .tup [(.int 3), (.tup [kn34, kn34, (.tup [])]), (.bl false), (.tup [(.bl true)])]
def kn36 : T := .tup [(.int 3), (.tup [(.tup []), kn34, (.tup [])]), (.bl true), (.tup [(.bl true)])]
def kn37 : T := .tup [kn11, (.tup [(.bl false), (.bl false)])]
def kn38 : T := .tup [kn11, (.tup [(.bl true), (.bl false)])]
def kn39 : T := .tup [kn11, (.tup [(.bl true), (.bl true)])]
def kn40 : T := .dic [kn3, kn4, kn6, kn7, kn11, kn13, kn14, kn20, kn22, kn23, kn28, kn29, kn33, kn35, kn36] [.non, kn8, kn9, kn10, kn15, kn16, kn17, kn24, kn25, kn26, kn30, kn31, kn37, kn38, kn39]
def kn41 : T := .tup [(.tup [(.int 0), (.int 2), (.int 1)])]
def kn42 : T := .tup [(.int 3), (.tup [kn41, kn41, (.tup [])]), (.bl false), (.tup [(.bl false)])]
def kn43 : T := .tup [(.tup [(.int 0), (.int 2), (.int 1)]), (.tup [(.int 1), (.int 1), (.int 2)])]
def kn44 : T := .tup [(.int 3), (.tup [kn43, kn43, (.tup [])]), (.bl false), (.tup [(.bl true)])]
def kn45 : T := .tup [(.int 3), (.tup [kn41, kn43, (.tup [])]), (.bl true), (.tup [(.bl true)])]
def kn46 : T := .tup [kn13, (.tup [(.bl false), (.bl false)])]
def kn47 : T := .tup [kn13, (.tup [(.bl true), (.bl false)])]
def kn48 : T := .tup [kn13, (.tup [(.bl true), (.bl true)])]
def kn49 : T := .dic [kn3, kn4, kn6, kn7, kn11, kn13, kn14, kn20, kn22, kn23, kn28, kn29, kn33, kn35, kn36, kn42, kn44, kn45] [.non, kn8, kn9, kn10, kn15, kn16, kn17, kn24, kn25, kn26, kn30, kn31, kn37, kn38, kn39, kn46, kn47, kn48]
def kn50 : T := .tup [(.int 3), (.tup [(.tup []), kn41, (.tup [])]), (.bl true), (.tup [(.bl false)])]
def kn51 : T := .tup [(.int 3), (.tup [kn34, kn43, (.tup [])]), (.bl true), (.tup [(.bl true)])]
def kn52 : T := .tup [kn14, (.tup [(.bl false), (.bl false)])]
def kn53 : T := .tup [kn14, (.tup [(.bl true), (.bl false)])]
def kn54 : T := .dic [kn3, kn4, kn6, kn7, kn11, kn13, kn14, kn20, kn22, kn23, kn28, kn29, kn33, kn35, kn36, kn42, kn44, kn45, kn50, kn51] [.non, kn8, kn9, kn10, kn15, kn16, kn17, kn24, kn25, kn26, kn30, kn31, kn37, kn38, kn39, kn46, kn47, kn48, kn52, kn53]
def kn55 : T := .tup [(.tup [(.int 0), (.int 3), (.int 0)])]
def kn56 : T := .tup [(.int 3), (.tup [kn55, kn55, (.tup [])]), (.bl false), (.tup [(.bl false)])]
def kn57 : T := .tup [(.tup [(.int 0), (.int 1), (.int 2)]), (.tup [(.int 0), (.int 3), (.int 0)])]
def kn58 : T := .tup [(.int 3), (.tup [kn57, kn57, (.tup [])]), (.bl false), (.tup [(.bl true)])]
def kn59 : T := .tup [(.int 3), (.tup [kn55, kn57, (.tup [])]), (.bl true), (.tup [(.bl true)])]
def kn60 : T := .tup [kn20, (.tup [(.bl false), (.bl false)])]
def kn61 : T := .tup [kn20, (.tup [(.bl true), (.bl false)])]
def kn62 : T := .tup [kn20, (.tup [(.bl true), (.bl true)])]
def kn63 : T := .dic [kn3, kn4, kn6, kn7, kn11, kn13, kn14, kn20, kn22, kn23, kn28, kn29, kn33, kn35, kn36, kn42, kn44, kn45, kn50, kn51, kn56, kn58, kn59] [.non, kn8, kn9, kn10, kn15, kn16, kn17, kn24, kn25, kn26, kn30, kn31, kn37, kn38, kn39, kn46, kn47, kn48, kn52, kn53, kn60, kn61, kn62]
def kn64 : T := .lst [kn33, kn35, kn36, kn42, kn44, kn45, kn50, kn51, kn56, kn58, kn59]
def kn65 : T := .tup [(.tup [(.int 0), (.int 3), (.int 0)]), (.tup [(.int 1), (.int 2), (.int 1)])]
def kn66 : T := .tup [(.int 3), (.tup [kn65, kn65, (.tup [])]), (.bl false), (.tup [(.bl false)])]
def kn67 : T := .tup [(.tup [(.int 0), (.int 1), (.int 2)]), (.tup [(.int 0), (.int 3), (.int 0)]), (.tup [(.int 1), (.int 2), (.int 1)])]
def kn68 : T := .tup [(.int 3), (.tup [kn67, kn67, (.tup [])]), (.bl false), (.tup [(.bl true)])]
def kn69 : T := .tup [(.int 3), (.tup [kn65, kn67, (.tup [])]), (.bl true), (.tup [(.bl true)])]
def kn70 : T := .tup [kn22, (.tup [(.bl false), (.bl false)])]
def kn71 : T := .tup [kn22, (.tup [(.bl true), (.bl false)])]
def kn72 : T := .tup [kn22, (.tup [(.bl true), (.bl true)])]
def kn73 : T := .dic [kn3, kn4, kn6, kn7, kn11, kn13, kn14, kn20, kn22, kn23, kn28, kn29, kn33, kn35, kn36, kn42, kn44, kn45, kn50, kn51, kn56, kn58, kn59, kn66, kn68, kn69] [.non, kn8, kn9, kn10, kn15, kn16, kn17, kn24, kn25, kn26, kn30, kn31, kn37, kn38, kn39, kn46, kn47, kn48, kn52, kn53, kn60, kn61, kn62, kn70, kn71, kn72]
def kn74 : T := .lst [kn33, kn35, kn36, kn42, kn44, kn45, kn50, kn51, kn56, kn58, kn59, kn66, kn68, kn69]
def kn75 : T := .tup [(.int 3), (.tup [kn55, kn65, (.tup [])]), (.bl true), (.tup [(.bl false)])]
def kn76 : T := .tup [(.int 3), (.tup [kn57, kn67, (.tup [])]), (.bl true), (.tup [(.bl true)])]
def kn77 : T := .tup [kn23, (.tup [(.bl false), (.bl false)])]
def kn78 : T := .tup [kn23, (.tup [(.bl true), (.bl false)])]
def kn79 : T := .dic [kn3, kn4, kn6, kn7, kn11, kn13, kn14, kn20, kn22, kn23, kn28, kn29, kn33, kn35, kn36, kn42, kn44, kn45, kn50, kn51, kn56, kn58, kn59, kn66, kn68, kn69, kn75, kn76] [.non, kn8, kn9, kn10, kn15, kn16, kn17, kn24, kn25, kn26, kn30, kn31, kn37, kn38, kn39, kn46, kn47, kn48, kn52, kn53, kn60, kn61, kn62, kn70, kn71, kn72, kn77, kn78]
def kn80 : T := .lst [kn33, kn35, kn36, kn42, kn44, kn45, kn50, kn51, kn56, kn58, kn59, kn66, kn68, kn69, kn75, kn76]
def kn81 : T := .tup [(.int 3), (.tup [(.tup []), kn55, (.tup [])]), (.bl true), (.tup [(.bl false)])]
def kn82 : T := .tup [(.int 3), (.tup [kn34, kn57, (.tup [])]), (.bl true), (.tup [(.bl true)])]
def kn83 : T := .tup [kn28, (.tup [(.bl false), (.bl false)])]
def kn84 : T := .tup [kn28, (.tup [(.bl true), (.bl false)])]
def kn85 : T := .dic [kn3, kn4, kn6, kn7, kn11, kn13, kn14, kn20, kn22, kn23, kn28, kn29, kn33, kn35, kn36, kn42, kn44, kn45, kn50, kn51, kn56, kn58, kn59, kn66, kn68, kn69, kn75, kn76, kn81, kn82] [.non, kn8, kn9, kn10, kn15, kn16, kn17, kn24, kn25, kn26, kn30, kn31, kn37, kn38, kn39, kn46, kn47, kn48, kn52, kn53, kn60, kn61, kn62, kn70, kn71, kn72, kn77, kn78, kn83, kn84]
def kn86 : T := .lst [kn33, kn35, kn36, kn42, kn44, kn45, kn50, kn51, kn56, kn58, kn59, kn66, kn68, kn69, kn75, kn76, kn81, kn82]
def kn87 : T := .tup [(.int 3), (.tup [kn41, kn65, (.tup [])]), (.bl true), (.tup [(.bl false)])]
def kn88 : T := .tup [(.int 3), (.tup [kn43, kn67, (.tup [])]), (.bl true), (.tup [(.bl true)])]
def kn89 : T := .tup [kn29, (.tup [(.bl false), (.bl false)])]
def kn90 : T := .tup [kn29, (.tup [(.bl true), (.bl false)])]
def kn91 : T := .dic [kn3, kn4, kn6, kn7, kn11, kn13, kn14, kn20, kn22, kn23, kn28, kn29, kn33, kn35, kn36, kn42, kn44, kn45, kn50, kn51, kn56, kn58, kn59, kn66, kn68, kn69, kn75, kn76, kn81, kn82, kn87, kn88] [.non, kn8, kn9, kn10, kn15, kn16, kn17, kn24, kn25, kn26, kn30, kn31, kn37, kn38, kn39, kn46, kn47, kn48, kn52, kn53, kn60, kn61, kn62, kn70, kn71, kn72, kn77, kn78, kn83, kn84, kn89, kn90]
def kn92 : T := .lst [kn33, kn35, kn36, kn42, kn44, kn45, kn50, kn51, kn56, kn58, kn59, kn66, kn68, kn69, kn75, kn76, kn81, kn82, kn87, kn88]
def kn93 : T := .tup [(.int 4), (.tup [(.tup []), (.tup []), (.tup [])]), (.bl false), (.tup [(.bl false)])]
def kn94 : T := .tup [(.int 4), (.tup [(.tup []), (.tup []), (.tup [])]), (.bl false), (.tup [(.bl true)])]
def kn95 : T := .tup [(.int 4), (.tup [(.tup []), (.tup []), (.tup [])]), (.bl true), (.tup [(.bl true)])]
def kn96 : T := .tup [kn33, (.tup [(.bl false), (.bl false)])]
def kn97 : T := .tup [kn33, (.tup [(.bl true), (.bl false)])]
def kn98 : T := .tup [kn33, (.tup [(.bl true), (.bl true)])]
def kn99 : T := .dic [kn3, kn4, kn6, kn7, kn11, kn13, kn14, kn20, kn22, kn23, kn28, kn29, kn33, kn35, kn36, kn42, kn44, kn45, kn50, kn51, kn56, kn58, kn59, kn66, kn68, kn69, kn75, kn76, kn81, kn82, kn87, kn88, kn93, kn94, kn95] [.non, kn8, kn9, kn10, kn15, kn16, kn17, kn24, kn25, kn26, kn30, kn31, kn37, kn38, kn39, kn46, kn47, kn48, kn52, kn53, kn60, kn61, kn62, kn70, kn71, kn72, kn77, kn78, kn83, kn84, kn89, kn90, kn96, kn97, kn98]
def kn100 : T := .tup [(.tup [(.int 0), (.int 2), (.int 2)])]
def kn101 : T := .tup [(.int 4), (.tup [kn100, kn100, (.tup [])]), (.bl false), (.tup [(.bl true)])]
def kn102 : T := .tup [(.int 4), (.tup [(.tup []), kn100, (.tup [])]), (.bl true), (.tup [(.bl true)])]
def kn103 : T := .tup [kn35, (.tup [(.bl true), (.bl false)])]
def kn104 : T := .tup [kn35, (.tup [(.bl true), (.bl true)])]
def kn105 : T := .dic [kn3, kn4, kn6, kn7, kn11, kn13, kn14, kn20, kn22, kn23, kn28, kn29, kn33, kn35, kn36, kn42, kn44, kn45, kn50, kn51, kn56, kn58, kn59, kn66, kn68, kn69, kn75, kn76, kn81, kn82, kn87, kn88, kn93, kn94, kn95, kn101, kn102] [.non, kn8, kn9, kn10, kn15, kn16, kn17, kn24, kn25, kn26, kn30, kn31, kn37, kn38, kn39, kn46, kn47, kn48, kn52, kn53, kn60, kn61, kn62, kn70, kn71, kn72, kn77, kn78, kn83, kn84, kn89, kn90, kn96, kn97, kn98, kn103, kn104]
def kn106 : T := .tup [(.int 4), (.tup [(.tup []), (.tup []), (.tup [])]), (.bl true), (.tup [(.bl false)])]
def kn107 : T := .tup [kn36, (.tup [(.bl false), (.bl false)])]
def kn108 : T := .dic [kn3, kn4, kn6, kn7, kn11, kn13, kn14, kn20, kn22, kn23, kn28, kn29, kn33, kn35, kn36, kn42, kn44, kn45, kn50, kn51, kn56, kn58, kn59, kn66, kn68, kn69, kn75, kn76, kn81, kn82, kn87, kn88, kn93, kn94, kn95, kn101, kn102, kn106] [.non, kn8, kn9, kn10, kn15, kn16, kn17, kn24, kn25, kn26, kn30, kn31, kn37, kn38, kn39, kn46, kn47, kn48, kn52, kn53, kn60, kn61, kn62, kn70, kn71, kn72, kn77, kn78, kn83, kn84, kn89, kn90, kn96, kn97, kn98, kn103, kn104, kn107]
def kn109 : T := .tup [(.tup [(.int 0), (.int 3), (.int 1)])]
def kn110 : T := .tup [(.int 4), (.tup [kn109, kn109, (.tup [])]), (.bl false), (.tup [(.bl true)])]
def kn111 : T := .tup [(.int 4), (.tup [(.tup []), kn109, (.tup [])]), (.bl true), (.tup [(.bl true)])]
def kn112 : T := .tup [kn42, (.tup [(.bl true), (.bl false)])]
def kn113 : T := .tup [kn42, (.tup [(.bl true), (.bl true)])]
def kn114 : T := .dic [kn3, kn4, kn6, kn7, kn11, kn13, kn14, kn20, kn22, kn23, kn28, kn29, kn33, kn35, kn36, kn42, kn44, kn45, kn50, kn51, kn56, kn58, kn59, kn66, kn68, kn69, kn75, kn76, kn81, kn82, kn87, kn88, kn93, kn94, kn95, kn101, kn102, kn106, kn110, kn111] [.non, kn8, kn9, kn10, kn15, kn16, kn17, kn24, kn25, kn26, kn30, kn31, kn37, kn38, kn39, kn46, kn47, kn48, kn52, kn53, kn60, kn61, kn62, kn70, kn71, kn72, kn77, kn78, kn83, kn84, kn89, kn90, kn96, kn97, kn98, kn103, kn104, kn107, kn112, kn113]
def kn115 : T := .tup [(.int 4), (.tup [kn100, kn100, (.tup [])]), (.bl false), (.tup [(.bl false)])]
def kn116 : T := .tup [(.int 4), (.tup [kn100, kn100, (.tup [])]), (.bl true), (.tup [(.bl true)])]
def kn117 : T := .tup [kn44, (.tup [(.bl false), (.bl false)])]
def kn118 : T := .tup [kn44, (.tup [(.bl true), (.bl true)])]
def kn119 : T := .dic [kn3, kn4, kn6, kn7, kn11, kn13, kn14, kn20, kn22, kn23, kn28, kn29, kn33, kn35, kn36, kn42, kn44, kn45, kn50, kn51, kn56, kn58, kn59, kn66, kn68, kn69, kn75, kn76, kn81, kn82, kn87, kn88, kn93, kn94, kn95, kn101, kn102, kn106, kn110, kn111, kn115, kn116] [.non, kn8, kn9, kn10, kn15, kn16, kn17, kn24, kn25, kn26, kn30, kn31, kn37, kn38, kn39, kn46, kn47, kn48, kn52, kn53, kn60, kn61, kn62, kn70, kn71, kn72, kn77, kn78, kn83, kn84, kn89, kn90, kn96, kn97, kn98, kn103, kn104, kn107, kn112, kn113, kn117, kn118]
def kn120 : T := .lst [kn93, kn94, kn95, kn101, kn102, kn106, kn110, kn111, kn115, kn116]
def kn121 : T := .tup [(.int 4), (.tup [(.tup []), kn100, (.tup [])]), (.bl true), (.tup [(.bl false)])]
def kn122 : T := .tup [(.int 4), (.tup [kn109, kn100, (.tup [])]), (.bl true), (.tup [(.bl true)])]
def kn123 : T := .tup [kn45, (.tup [(.bl false), (.bl false)])]
def kn124 : T := .tup [kn45, (.tup [(.bl true), (.bl false)])]
def kn125 : T := .dic [kn3, kn4, kn6, kn7, kn11, kn13, kn14, kn20, kn22, kn23, kn28, kn29, kn33, kn35, kn36, kn42, kn44, kn45, kn50, kn51, kn56, kn58, kn59, kn66, kn68, kn69, kn75, kn76, kn81, kn82, kn87, kn88, kn93, kn94, kn95, kn101, kn102, kn106, kn110, kn111, kn115, kn116, kn121, kn122] [.non, kn8, kn9, kn10, kn15, kn16, kn17, kn24, kn25, kn26, kn30, kn31, kn37, kn38, kn39, kn46, kn47, kn48, kn52, kn53, kn60, kn61, kn62, kn70, kn71, kn72, kn77, kn78, kn83, kn84, kn89, kn90, kn96, kn97, kn98, kn103, kn104, kn107, kn112, kn113, kn117, kn118, kn123, kn124]
def kn126 : T := .lst [kn93, kn94, kn95, kn101, kn102, kn106, kn110, kn111, kn115, kn116, kn121, kn122]
def kn127 : T := .tup [(.tup [(.int 0), (.int 4), (.int 0)])]
def kn128 : T := .tup [(.int 4), (.tup [kn127, kn127, (.tup [])]), (.bl false), (.tup [(.bl true)])]
def kn129 : T := .tup [(.int 4), (.tup [(.tup []), kn127, (.tup [])]), (.bl true), (.tup [(.bl true)])]
def kn130 : T := .tup [kn56, (.tup [(.bl true), (.bl false)])]
def kn131 : T := .tup [kn56, (.tup [(.bl true), (.bl true)])]
def kn132 : T := .dic [kn3, kn4, kn6, kn7, kn11, kn13, kn14, kn20, kn22, kn23, kn28, kn29, kn33, kn35, kn36, kn42, kn44, kn45, kn50, kn51, kn56, kn58, kn59, kn66, kn68, kn69, kn75, kn76, kn81, kn82, kn87, kn88, kn93, kn94, kn95, kn101, kn102, kn106, kn110, kn111, kn115, kn116, kn121, kn122, kn128, kn129] [.non, kn8, kn9, kn10, kn15, kn16, kn17, kn24, kn25, kn26, kn30, kn31, kn37, kn38, kn39, kn46, kn47, kn48, kn52, kn53, kn60, kn61, kn62, kn70, kn71, kn72, kn77, kn78, kn83, kn84, kn89, kn90, kn96, kn97, kn98, kn103, kn104, kn107, kn112, kn113, kn117, kn118, kn123, kn124, kn130, kn131]
def kn133 : T := .lst [kn93, kn94, kn95, kn101, kn102, kn106, kn110, kn111, kn115, kn116, kn121, kn122, kn128, kn129]
def kn134 : T := .tup [(.tup [(.int 0), (.int 2), (.int 2)]), (.tup [(.int 0), (.int 4), (.int 0)])]
def kn135 : T := .tup [(.int 4), (.tup [kn134, kn134, (.tup [])]), (.bl false), (.tup [(.bl true)])]
def kn136 : T := .tup [(.int 4), (.tup [(.tup []), kn134, (.tup [])]), (.bl true), (.tup [(.bl true)])]
def kn137 : T := .tup [kn58, (.tup [(.bl true), (.bl false)])]
def kn138 : T := .tup [kn58, (.tup [(.bl true), (.bl true)])]
def kn139 : T := .dic [kn3, kn4, kn6, kn7, kn11, kn13, kn14, kn20, kn22, kn23, kn28, kn29, kn33, kn35, kn36, kn42, kn44, kn45, kn50, kn51, kn56, kn58, kn59, kn66, kn68, kn69, kn75, kn76, kn81, kn82, kn87, kn88, kn93, kn94, kn95, kn101, kn102, kn106, kn110, kn111, kn115, kn116, kn121, kn122, kn128, kn129, kn135, kn136] [.non, kn8, kn9, kn10, kn15, kn16, kn17, kn24, kn25, kn26, kn30, kn31, kn37, kn38, kn39, kn46, kn47, kn48, kn52, kn53, kn60, kn61, kn62, kn70, kn71, kn72, kn77, kn78, kn83, kn84, kn89, kn90, kn96, kn97, kn98, kn103, kn104, kn107, kn112, kn113, kn117, kn118, kn123, kn124, kn130, kn131, kn137, kn138]
def kn140 : T := .lst [kn93, kn94, kn95, kn101, kn102, kn106, kn110, kn111, kn115, kn116, kn121, kn122, kn128, kn129, kn135, kn136]
def kn141 : T := .tup [(.int 4), (.tup [kn127, kn134, (.tup [])]), (.bl true), (.tup [(.bl true)])]
def kn142 : T := .tup [kn59, (.tup [(.bl true), (.bl false)])]
def kn143 : T := .dic [kn3, kn4, kn6, kn7, kn11, kn13, kn14, kn20, kn22, kn23, kn28, kn29, kn33, kn35, kn36, kn42, kn44, kn45, kn50, kn51, kn56, kn58, kn59, kn66, kn68, kn69, kn75, kn76, kn81, kn82, kn87, kn88, kn93, kn94, kn95, kn101, kn102, kn106, kn110, kn111, kn115, kn116, kn121, kn122, kn128, kn129, kn135, kn136, kn141] [.non, kn8, kn9, kn10, kn15, kn16, kn17, kn24, kn25, kn26, kn30, kn31, kn37, kn38, kn39, kn46, kn47, kn48, kn52, kn53, kn60, kn61, kn62, kn70, kn71, kn72, kn77, kn78, kn83, kn84, kn89, kn90, kn96, kn97, kn98, kn103, kn104, kn107, kn112, kn113, kn117, kn118, kn123, kn124, kn130, kn131, kn137, kn138, kn142]
def kn144 : T := .lst [kn93, kn94, kn95, kn101, kn102, kn106, kn110, kn111, kn115, kn116, kn121, kn122, kn128, kn129, kn135, kn136, kn141]
def kn145 : T := .tup [(.int 4), (.tup [kn109, kn109, (.tup [])]), (.bl false), (.tup [(.bl false)])]
def kn146 : T := .tup [(.int 4), (.tup [kn109, kn109, (.tup [])]), (.bl true), (.tup [(.bl true)])]
def kn147 : T := .tup [kn66, (.tup [(.bl false), (.bl false)])]
def kn148 : T := .tup [kn66, (.tup [(.bl true), (.bl true)])]
def kn149 : T := .dic [kn3, kn4, kn6, kn7, kn11, kn13, kn14, kn20, kn22, kn23, kn28, kn29, kn33, kn35, kn36, kn42, kn44, kn45, kn50, kn51, kn56, kn58, kn59, kn66, kn68, kn69, kn75, kn76, kn81, kn82, kn87, kn88, kn93, kn94, kn95, kn101, kn102, kn106, kn110, kn111, kn115, kn116, kn121, kn122, kn128, kn129, kn135, kn136, kn141, kn145, kn146] [.non, kn8, kn9, kn10, kn15, kn16, kn17, kn24, kn25, kn26, kn30, kn31, kn37, kn38, kn39, kn46, kn47, kn48, kn52, kn53, kn60, kn61, kn62, kn70, kn71, kn72, kn77, kn78, kn83, kn84, kn89, kn90, kn96, kn97, kn98, kn103, kn104, kn107, kn112, kn113, kn117, kn118, kn123, kn124, kn130, kn131, kn137, kn138, kn142, kn147, kn148]
def kn150 : T := .lst [kn93, kn94, kn95, kn101, kn102, kn106, kn110, kn111, kn115, kn116, kn121, kn122, kn128, kn129, kn135, kn136, kn141, kn145, kn146]
def kn151 : T := .tup [(.tup [(.int 0), (.int 3), (.int 1)]), (.tup [(.int 4), (.int 2), (.int 2)])]
def kn152 : T := .tup [(.int 4), (.tup [kn151, kn151, (.tup [])]), (.bl false), (.tup [(.bl true)])]
def kn153 : T := .tup [(.int 4), (.tup [kn109, kn151, (.tup [])]), (.bl true), (.tup [(.bl true)])]
def kn154 : T := .tup [kn68, (.tup [(.bl true), (.bl false)])]
def kn155 : T := .tup [kn68, (.tup [(.bl true), (.bl true)])]
def kn156 : T := .dic [kn3, kn4, kn6, kn7, kn11, kn13, kn14, kn20, kn22, kn23, kn28, kn29, kn33, kn35, kn36, kn42, kn44, kn45, kn50, kn51, kn56, kn58, kn59, kn66, kn68, kn69, kn75, kn76, kn81, kn82, kn87, kn88, kn93, kn94, kn95, kn101, kn102, kn106, kn110, kn111, kn115, kn116, kn121, kn122, kn128, kn129, kn135, kn136, kn141, kn145, kn146, kn152, kn153] [.non, kn8, kn9, kn10, kn15, kn16, kn17, kn24, kn25, kn26, kn30, kn31, kn37, kn38, kn39, kn46, kn47, kn48, kn52, kn53, kn60, kn61, kn62, kn70, kn71, kn72, kn77, kn78, kn83, kn84, kn89, kn90, kn96, kn97, kn98, kn103, kn104, kn107, kn112, kn113, kn117, kn118, kn123, kn124, kn130, kn131, kn137, kn138, kn142, kn147, kn148, kn154, kn155]
def kn157 : T := .lst [kn93, kn94, kn95, kn101, kn102, kn106, kn110, kn111, kn115, kn116, kn121, kn122, kn128, kn129, kn135, kn136, kn141, kn145, kn146, kn152, kn153]
def kn158 : T := .tup [(.int 4), (.tup [kn109, kn109, (.tup [])]), (.bl true), (.tup [(.bl false)])]
def kn159 : T := .tup [kn69, (.tup [(.bl false), (.bl false)])]
def kn160 : T := .dic [kn3, kn4, kn6, kn7, kn11, kn13, kn14, kn20, kn22, kn23, kn28, kn29, kn33, kn35, kn36, kn42, kn44, kn45, kn50, kn51, kn56, kn58, kn59, kn66, kn68, kn69, kn75, kn76, kn81, kn82, kn87, kn88, kn93, kn94, kn95, kn101, kn102, kn106, kn110, kn111, kn115, kn116, kn121, kn122, kn128, kn129, kn135, kn136, kn141, kn145, kn146, kn152, kn153, kn158] [.non, kn8, kn9, kn10, kn15, kn16, kn17, kn24, kn25, kn26, kn30, kn31, kn37, kn38, kn39, kn46, kn47, kn48, kn52, kn53, kn60, kn61, kn62, kn70, kn71, kn72, kn77, kn78, kn83, kn84, kn89, kn90, kn96, kn97, kn98, kn103, kn104, kn107, kn112, kn113, kn117, kn118, kn123, kn124, kn130, kn131, kn137, kn138, kn142, kn147, kn148, kn154, kn155, kn159]
def kn161 : T := .lst [kn93, kn94, kn95, kn101, kn102, kn106, kn110, kn111, kn115, kn116, kn121, kn122, kn128, kn129, kn135, kn136, kn141, kn145, kn146, kn152, kn153, kn158]
def kn162 : T := .tup [(.int 4), (.tup [(.tup []), kn109, (.tup [])]), (.bl true), (.tup [(.bl false)])]
def kn163 : T := .tup [(.int 4), (.tup [kn127, kn109, (.tup [])]), (.bl true), (.tup [(.bl true)])]
def kn164 : T := .tup [kn75, (.tup [(.bl false), (.bl false)])]
def kn165 : T := .tup [kn75, (.tup [(.bl true), (.bl false)])]
def kn166 : T := .dic [kn3, kn4, kn6, kn7, kn11, kn13, kn14, kn20, kn22, kn23, kn28, kn29, kn33, kn35, kn36, kn42, kn44, kn45, kn50, kn51, kn56, kn58, kn59, kn66, kn68, kn69, kn75, kn76, kn81, kn82, kn87, kn88, kn93, kn94, kn95, kn101, kn102, kn106, kn110, kn111, kn115, kn116, kn121, kn122, kn128, kn129, kn135, kn136, kn141, kn145, kn146, kn152, kn153, kn158, kn162, kn163] [.non, kn8, kn9, kn10, kn15, kn16, kn17, kn24, kn25, kn26, kn30, kn31, kn37, kn38, kn39, kn46, kn47, kn48, kn52, kn53, kn60, kn61, kn62, kn70, kn71, kn72, kn77, kn78, kn83, kn84, kn89, kn90, kn96, kn97, kn98, kn103, kn104, kn107, kn112, kn113, kn117, kn118, kn123, kn124, kn130, kn131, kn137, kn138, kn142, kn147, kn148, kn154, kn155, kn159, kn164, kn165]
def kn167 : T := .lst [kn93, kn94, kn95, kn101, kn102, kn106, kn110, kn111, kn115, kn116, kn121, kn122, kn128, kn129, kn135, kn136, kn141, kn145, kn146, kn152, kn153, kn158, kn162, kn163]
def kn168 : T := .tup [(.int 4), (.tup [kn134, kn151, (.tup [])]), (.bl true), (.tup [(.bl true)])]
def kn169 : T := .tup [kn76, (.tup [(.bl true), (.bl false)])]
def kn170 : T := .dic [kn3, kn4, kn6, kn7, kn11, kn13, kn14, kn20, kn22, kn23, kn28, kn29, kn33, kn35, kn36, kn42, kn44, kn45, kn50, kn51, kn56, kn58, kn59, kn66, kn68, kn69, kn75, kn76, kn81, kn82, kn87, kn88, kn93, kn94, kn95, kn101, kn102, kn106, kn110, kn111, kn115, kn116, kn121, kn122, kn128, kn129, kn135, kn136, kn141, kn145, kn146, kn152, kn153, kn158, kn162, kn163, kn168] [.non, kn8, kn9, kn10, kn15, kn16, kn17, kn24, kn25, kn26, kn30, kn31, kn37, kn38, kn39, kn46, kn47, kn48, kn52, kn53, kn60, kn61, kn62, kn70, kn71, kn72, kn77, kn78, kn83, kn84, kn89, kn90, kn96, kn97, kn98, kn103, kn104, kn107, kn112, kn113, kn117, kn118, kn123, kn124, kn130, kn131, kn137, kn138, kn142, kn147, kn148, kn154, kn155, kn159, kn164, kn165, kn169]
def kn171 : T := .lst [kn93, kn94, kn95, kn101, kn102, kn106, kn110, kn111, kn115, kn116, kn121, kn122, kn128, kn129, kn135, kn136, kn141, kn145, kn146, kn152, kn153, kn158, kn162, kn163, kn168]
def kn172 : T := .tup [(.int 4), (.tup [kn100, kn134, (.tup [])]), (.bl true), (.tup [(.bl true)])]
def kn173 : T := .tup [kn82, (.tup [(.bl true), (.bl false)])]
def kn174 : T := .dic [kn3, kn4, kn6, kn7, kn11, kn13, kn14, kn20, kn22, kn23, kn28, kn29, kn33, kn35, kn36, kn42, kn44, kn45, kn50, kn51, kn56, kn58, kn59, kn66, kn68, kn69, kn75, kn76, kn81, kn82, kn87, kn88, kn93, kn94, kn95, kn101, kn102, kn106, kn110, kn111, kn115, kn116, kn121, kn122, kn128, kn129, kn135, kn136, kn141, kn145, kn146, kn152, kn153, kn158, kn162, kn163, kn168, kn172] [.non, kn8, kn9, kn10, kn15, kn16, kn17, kn24, kn25, kn26, kn30, kn31, kn37, kn38, kn39, kn46, kn47, kn48, kn52, kn53, kn60, kn61, kn62, kn70, kn71, kn72, kn77, kn78, kn83, kn84, kn89, kn90, kn96, kn97, kn98, kn103, kn104, kn107, kn112, kn113, kn117, kn118, kn123, kn124, kn130, kn131, kn137, kn138, kn142, kn147, kn148, kn154, kn155, kn159, kn164, kn165, kn169, kn173]
def kn175 : T := .lst [kn93, kn94, kn95, kn101, kn102, kn106, kn110, kn111, kn115, kn116, kn121, kn122, kn128, kn129, kn135, kn136, kn141, kn145, kn146, kn152, kn153, kn158, kn162, kn163, kn168, kn172]
def kn176 : T := .tup [(.int 4), (.tup [kn100, kn109, (.tup [])]), (.bl true), (.tup [(.bl false)])]
def kn177 : T := .tup [(.tup [(.bl true), (.bl true)]), (.tup [(.bl true), (.bl false)]), (.tup [(.bl true), (.bl false)]), (.tup [(.bl false), (.bl false)])]
def lateT : T := (.obj "Week" ["days", "matches"] [(.int 5), kn0])
def rulT : T := kn1
def meaT : T := kn2
def f0T : T := kn3
def resT : T := (.tup [kn174, kn177])
def fbP : EF := (fCall 4 F_Steps [] (f2 (fFrz (fV 0)) (f2 (fFrz (fV 1)) (f2 (fFrz (fV 2)) (f2 (fFrz (fV 9)) f0)))))
def GP : FT := gAct [.val lateT, .val rulT, .val meaT, .val f0T, .no, .no, .no, .no, .no] fbP
def kz0 : Z := ⟨[.val (.obj "Week" ["days", "matches"] [(.int 5), kn0]), .val kn1, .val kn2, .val kn3, .no, .no, .no, .no, .no], []⟩
def kz1 : Z := ⟨[.val kn3, .val .fnc, .no, .no, .no, .no, .no, .no, .no], []⟩
def kz2 : Z := ⟨[.val kn3, .val .fnc, .own (.dic [kn3] [.non]), .no, .no, .no, .no, .no, .no], []⟩
def kz3 : Z := ⟨[.val kn3, .val .fnc, .own (.dic [kn3] [.non]), .own (.lst [kn3]), .no, .no, .no, .no, .no], []⟩
def kz4 : Z := ⟨[.val kn3, .val .fnc, .own (.dic [kn3] [.non]), .own (.lst [kn3]), .own (.lst []), .no, .no, .no, .no], []⟩
def kz5 : Z := ⟨[.val kn3, .val .fnc, .own (.dic [kn3] [.non]), .own (.lst [kn3]), .own (.lst []), .no, .no, .no, .no], [.ali 3]⟩
def kz6 : Z := ⟨[.val kn3, .val .fnc, .own (.dic [kn3] [.non]), .own (.lst [kn3]), .own (.lst []), .val kn3, .no, .no, .no], [.ali 3]⟩
def kz7 : Z := ⟨[.val kn3, .val .fnc, .own (.dic [kn3, kn4, kn6, kn7] [.non, kn8, kn9, kn10]), .own (.lst [kn3]), .own (.lst [kn4, kn6, kn7]), .val kn3, .val (.tup [(.bl true), (.bl true)]), .val (.bl false), .val kn7], [.ali 3]⟩
def kz8 : Z := ⟨[.val kn3, .val .fnc, .own (.dic [kn3, kn4, kn6, kn7] [.non, kn8, kn9, kn10]), .own (.lst [kn3]), .own (.lst [kn4, kn6, kn7]), .val kn3, .val (.tup [(.bl true), (.bl true)]), .val (.bl false), .val kn7], []⟩
def kz9 : Z := ⟨[.val kn3, .val .fnc, .own (.dic [kn3, kn4, kn6, kn7] [.non, kn8, kn9, kn10]), .val (.lst [kn4, kn6, kn7]), .val (.lst [kn4, kn6, kn7]), .val kn3, .val (.tup [(.bl true), (.bl true)]), .val (.bl false), .val kn7], []⟩
def kz10 : Z := ⟨[.val kn3, .val .fnc, .own (.dic [kn3, kn4, kn6, kn7] [.non, kn8, kn9, kn10]), .val (.lst [kn4, kn6, kn7]), .own (.lst []), .val kn3, .val (.tup [(.bl true), (.bl true)]), .val (.bl false), .val kn7], []⟩
def kz11 : Z := ⟨[.val kn3, .val .fnc, .own (.dic [kn3, kn4, kn6, kn7] [.non, kn8, kn9, kn10]), .val (.lst [kn4, kn6, kn7]), .own (.lst []), .val kn3, .val (.tup [(.bl true), (.bl true)]), .val (.bl false), .val kn7], [.val (.lst [kn4, kn6, kn7])]⟩
def kz12 : Z := ⟨[.val kn3, .val .fnc, .own (.dic [kn3, kn4, kn6, kn7] [.non, kn8, kn9, kn10]), .val (.lst [kn4, kn6, kn7]), .own (.lst []), .val kn4, .val (.tup [(.bl true), (.bl true)]), .val (.bl false), .val kn7], [.val (.lst [kn4, kn6, kn7])]⟩
def kz13 : Z := ⟨[.val kn3, .val .fnc, .own kn18, .val (.lst [kn4, kn6, kn7]), .own (.lst [kn11, kn13, kn14]), .val kn4, .val (.tup [(.bl true), (.bl true)]), .val (.bl false), .val kn14], [.val (.lst [kn4, kn6, kn7])]⟩
def kz14 : Z := ⟨[.val kn3, .val .fnc, .own kn18, .val (.lst [kn4, kn6, kn7]), .own (.lst [kn11, kn13, kn14]), .val kn6, .val (.tup [(.bl true), (.bl true)]), .val (.bl false), .val kn14], [.val (.lst [kn4, kn6, kn7])]⟩
def kz15 : Z := ⟨[.val kn3, .val .fnc, .own kn27, .val (.lst [kn4, kn6, kn7]), .own (.lst [kn11, kn13, kn14, kn20, kn22, kn23]), .val kn6, .val (.tup [(.bl true), (.bl true)]), .val (.bl false), .val kn23], [.val (.lst [kn4, kn6, kn7])]⟩
def kz16 : Z := ⟨[.val kn3, .val .fnc, .own kn27, .val (.lst [kn4, kn6, kn7]), .own (.lst [kn11, kn13, kn14, kn20, kn22, kn23]), .val kn7, .val (.tup [(.bl true), (.bl true)]), .val (.bl false), .val kn23], [.val (.lst [kn4, kn6, kn7])]⟩
def kz17 : Z := ⟨[.val kn3, .val .fnc, .own kn32, .val (.lst [kn4, kn6, kn7]), .own (.lst [kn11, kn13, kn14, kn20, kn22, kn23, kn28, kn29]), .val kn7, .val (.tup [(.bl true), (.bl false)]), .val (.bl false), .val kn29], [.val (.lst [kn4, kn6, kn7])]⟩
def kz18 : Z := ⟨[.val kn3, .val .fnc, .own kn32, .val (.lst [kn4, kn6, kn7]), .own (.lst [kn11, kn13, kn14, kn20, kn22, kn23, kn28, kn29]), .val kn7, .val (.tup [(.bl true), (.bl false)]), .val (.bl false), .val kn29], []⟩
def kz19 : Z := ⟨[.val kn3, .val .fnc, .own kn32, .val (.lst [kn11, kn13, kn14, kn20, kn22, kn23, kn28, kn29]), .val (.lst [kn11, kn13, kn14, kn20, kn22, kn23, kn28, kn29]), .val kn7, .val (.tup [(.bl true), (.bl false)]), .val (.bl false), .val kn29], []⟩
def kz20 : Z := ⟨[.val kn3, .val .fnc, .own kn32, .val (.lst [kn11, kn13, kn14, kn20, kn22, kn23, kn28, kn29]), .own (.lst []), .val kn7, .val (.tup [(.bl true), (.bl false)]), .val (.bl false), .val kn29], []⟩
def kz21 : Z := ⟨[.val kn3, .val .fnc, .own kn32, .val (.lst [kn11, kn13, kn14, kn20, kn22, kn23, kn28, kn29]), .own (.lst []), .val kn7, .val (.tup [(.bl true), (.bl false)]), .val (.bl false), .val kn29], [.val (.lst [kn11, kn13, kn14, kn20, kn22, kn23, kn28, kn29])]⟩
def kz22 : Z := ⟨[.val kn3, .val .fnc, .own kn32, .val (.lst [kn11, kn13, kn14, kn20, kn22, kn23, kn28, kn29]), .own (.lst []), .val kn11, .val (.tup [(.bl true), (.bl false)]), .val (.bl false), .val kn29], [.val (.lst [kn11, kn13, kn14, kn20, kn22, kn23, kn28, kn29])]⟩
def kz23 : Z := ⟨[.val kn3, .val .fnc, .own kn40, .val (.lst [kn11, kn13, kn14, kn20, kn22, kn23, kn28, kn29]), .own (.lst [kn33, kn35, kn36]), .val kn11, .val (.tup [(.bl true), (.bl true)]), .val (.bl false), .val kn36], [.val (.lst [kn11, kn13, kn14, kn20, kn22, kn23, kn28, kn29])]⟩
def kz24 : Z := ⟨[.val kn3, .val .fnc, .own kn40, .val (.lst [kn11, kn13, kn14, kn20, kn22, kn23, kn28, kn29]), .own (.lst [kn33, kn35, kn36]), .val kn13, .val (.tup [(.bl true), (.bl true)]), .val (.bl false), .val kn36], [.val (.lst [kn11, kn13, kn14, kn20, kn22, kn23, kn28, kn29])]⟩
def kz25 : Z := ⟨[.val kn3, .val .fnc, .own kn49, .val (.lst [kn11, kn13, kn14, kn20, kn22, kn23, kn28, kn29]), .own (.lst [kn33, kn35, kn36, kn42, kn44, kn45]), .val kn13, .val (.tup [(.bl true), (.bl true)]), .val (.bl false), .val kn45], [.val (.lst [kn11, kn13, kn14, kn20, kn22, kn23, kn28, kn29])]⟩
def kz26 : Z := ⟨[.val kn3, .val .fnc, .own kn49, .val (.lst [kn11, kn13, kn14, kn20, kn22, kn23, kn28, kn29]), .own (.lst [kn33, kn35, kn36, kn42, kn44, kn45]), .val kn14, .val (.tup [(.bl true), (.bl true)]), .val (.bl false), .val kn45], [.val (.lst [kn11, kn13, kn14, kn20, kn22, kn23, kn28, kn29])]⟩
def kz27 : Z := ⟨[.val kn3, .val .fnc, .own kn54, .val (.lst [kn11, kn13, kn14, kn20, kn22, kn23, kn28, kn29]), .own (.lst [kn33, kn35, kn36, kn42, kn44, kn45, kn50, kn51]), .val kn14, .val (.tup [(.bl true), (.bl false)]), .val (.bl false), .val kn51], [.val (.lst [kn11, kn13, kn14, kn20, kn22, kn23, kn28, kn29])]⟩
def kz28 : Z := ⟨[.val kn3, .val .fnc, .own kn54, .val (.lst [kn11, kn13, kn14, kn20, kn22, kn23, kn28, kn29]), .own (.lst [kn33, kn35, kn36, kn42, kn44, kn45, kn50, kn51]), .val kn20, .val (.tup [(.bl true), (.bl false)]), .val (.bl false), .val kn51], [.val (.lst [kn11, kn13, kn14, kn20, kn22, kn23, kn28, kn29])]⟩
def kz29 : Z := ⟨[.val kn3, .val .fnc, .own kn63, .val (.lst [kn11, kn13, kn14, kn20, kn22, kn23, kn28, kn29]), .own kn64, .val kn20, .val (.tup [(.bl true), (.bl true)]), .val (.bl false), .val kn59], [.val (.lst [kn11, kn13, kn14, kn20, kn22, kn23, kn28, kn29])]⟩
def kz30 : Z := ⟨[.val kn3, .val .fnc, .own kn63, .val (.lst [kn11, kn13, kn14, kn20, kn22, kn23, kn28, kn29]), .own kn64, .val kn22, .val (.tup [(.bl true), (.bl true)]), .val (.bl false), .val kn59], [.val (.lst [kn11, kn13, kn14, kn20, kn22, kn23, kn28, kn29])]⟩
def kz31 : Z := ⟨[.val kn3, .val .fnc, .own kn73, .val (.lst [kn11, kn13, kn14, kn20, kn22, kn23, kn28, kn29]), .own kn74, .val kn22, .val (.tup [(.bl true), (.bl true)]), .val (.bl false), .val kn69], [.val (.lst [kn11, kn13, kn14, kn20, kn22, kn23, kn28, kn29])]⟩
def kz32 : Z := ⟨[.val kn3, .val .fnc, .own kn73, .val (.lst [kn11, kn13, kn14, kn20, kn22, kn23, kn28, kn29]), .own kn74, .val kn23, .val (.tup [(.bl true), (.bl true)]), .val (.bl false), .val kn69], [.val (.lst [kn11, kn13, kn14, kn20, kn22, kn23, kn28, kn29])]⟩
def kz33 : Z := ⟨[.val kn3, .val .fnc, .own kn79, .val (.lst [kn11, kn13, kn14, kn20, kn22, kn23, kn28, kn29]), .own kn80, .val kn23, .val (.tup [(.bl true), (.bl false)]), .val (.bl false), .val kn76], [.val (.lst [kn11, kn13, kn14, kn20, kn22, kn23, kn28, kn29])]⟩
def kz34 : Z := ⟨[.val kn3, .val .fnc, .own kn79, .val (.lst [kn11, kn13, kn14, kn20, kn22, kn23, kn28, kn29]), .own kn80, .val kn28, .val (.tup [(.bl true), (.bl false)]), .val (.bl false), .val kn76], [.val (.lst [kn11, kn13, kn14, kn20, kn22, kn23, kn28, kn29])]⟩
def kz35 : Z := ⟨[.val kn3, .val .fnc, .own kn85, .val (.lst [kn11, kn13, kn14, kn20, kn22, kn23, kn28, kn29]), .own kn86, .val kn28, .val (.tup [(.bl true), (.bl false)]), .val (.bl false), .val kn82], [.val (.lst [kn11, kn13, kn14, kn20, kn22, kn23, kn28, kn29])]⟩
def kz36 : Z := ⟨[.val kn3, .val .fnc, .own kn85, .val (.lst [kn11, kn13, kn14, kn20, kn22, kn23, kn28, kn29]), .own kn86, .val kn29, .val (.tup [(.bl true), (.bl false)]), .val (.bl false), .val kn82], [.val (.lst [kn11, kn13, kn14, kn20, kn22, kn23, kn28, kn29])]⟩
def kz37 : Z := ⟨[.val kn3, .val .fnc, .own kn91, .val (.lst [kn11, kn13, kn14, kn20, kn22, kn23, kn28, kn29]), .own kn92, .val kn29, .val (.tup [(.bl true), (.bl false)]), .val (.bl false), .val kn88], [.val (.lst [kn11, kn13, kn14, kn20, kn22, kn23, kn28, kn29])]⟩
def kz38 : Z := ⟨[.val kn3, .val .fnc, .own kn91, .val (.lst [kn11, kn13, kn14, kn20, kn22, kn23, kn28, kn29]), .own kn92, .val kn29, .val (.tup [(.bl true), (.bl false)]), .val (.bl false), .val kn88], []⟩
def kz39 : Z := ⟨[.val kn3, .val .fnc, .own kn91, .val kn92, .val kn92, .val kn29, .val (.tup [(.bl true), (.bl false)]), .val (.bl false), .val kn88], []⟩
def kz40 : Z := ⟨[.val kn3, .val .fnc, .own kn91, .val kn92, .own (.lst []), .val kn29, .val (.tup [(.bl true), (.bl false)]), .val (.bl false), .val kn88], []⟩
def kz41 : Z := ⟨[.val kn3, .val .fnc, .own kn91, .val kn92, .own (.lst []), .val kn29, .val (.tup [(.bl true), (.bl false)]), .val (.bl false), .val kn88], [.val kn92]⟩
def kz42 : Z := ⟨[.val kn3, .val .fnc, .own kn91, .val kn92, .own (.lst []), .val kn33, .val (.tup [(.bl true), (.bl false)]), .val (.bl false), .val kn88], [.val kn92]⟩
def kz43 : Z := ⟨[.val kn3, .val .fnc, .own kn99, .val kn92, .own (.lst [kn93, kn94, kn95]), .val kn33, .val (.tup [(.bl true), (.bl true)]), .val (.bl false), .val kn95], [.val kn92]⟩
def kz44 : Z := ⟨[.val kn3, .val .fnc, .own kn99, .val kn92, .own (.lst [kn93, kn94, kn95]), .val kn35, .val (.tup [(.bl true), (.bl true)]), .val (.bl false), .val kn95], [.val kn92]⟩
def kz45 : Z := ⟨[.val kn3, .val .fnc, .own kn105, .val kn92, .own (.lst [kn93, kn94, kn95, kn101, kn102]), .val kn35, .val (.tup [(.bl true), (.bl true)]), .val (.bl false), .val kn102], [.val kn92]⟩
def kz46 : Z := ⟨[.val kn3, .val .fnc, .own kn105, .val kn92, .own (.lst [kn93, kn94, kn95, kn101, kn102]), .val kn36, .val (.tup [(.bl true), (.bl true)]), .val (.bl false), .val kn102], [.val kn92]⟩
def kz47 : Z := ⟨[.val kn3, .val .fnc, .own kn108, .val kn92, .own (.lst [kn93, kn94, kn95, kn101, kn102, kn106]), .val kn36, .val (.tup [(.bl true), (.bl false)]), .val (.bl false), .val kn102], [.val kn92]⟩
def kz48 : Z := ⟨[.val kn3, .val .fnc, .own kn108, .val kn92, .own (.lst [kn93, kn94, kn95, kn101, kn102, kn106]), .val kn42, .val (.tup [(.bl true), (.bl false)]), .val (.bl false), .val kn102], [.val kn92]⟩
def kz49 : Z := ⟨[.val kn3, .val .fnc, .own kn114, .val kn92, .own (.lst [kn93, kn94, kn95, kn101, kn102, kn106, kn110, kn111]), .val kn42, .val (.tup [(.bl true), (.bl true)]), .val (.bl false), .val kn111], [.val kn92]⟩
def kz50 : Z := ⟨[.val kn3, .val .fnc, .own kn114, .val kn92, .own (.lst [kn93, kn94, kn95, kn101, kn102, kn106, kn110, kn111]), .val kn44, .val (.tup [(.bl true), (.bl true)]), .val (.bl false), .val kn111], [.val kn92]⟩
def kz51 : Z := ⟨[.val kn3, .val .fnc, .own kn119, .val kn92, .own kn120, .val kn44, .val (.tup [(.bl true), (.bl true)]), .val (.bl false), .val kn116], [.val kn92]⟩
def kz52 : Z := ⟨[.val kn3, .val .fnc, .own kn119, .val kn92, .own kn120, .val kn45, .val (.tup [(.bl true), (.bl true)]), .val (.bl false), .val kn116], [.val kn92]⟩
def kz53 : Z := ⟨[.val kn3, .val .fnc, .own kn125, .val kn92, .own kn126, .val kn45, .val (.tup [(.bl true), (.bl false)]), .val (.bl false), .val kn122], [.val kn92]⟩
def kz54 : Z := ⟨[.val kn3, .val .fnc, .own kn125, .val kn92, .own kn126, .val kn50, .val (.tup [(.bl true), (.bl false)]), .val (.bl false), .val kn122], [.val kn92]⟩
def kz55 : Z := ⟨[.val kn3, .val .fnc, .own kn125, .val kn92, .own kn126, .val kn50, .val (.tup [(.bl true), (.bl false)]), .val (.bl false), .val kn111], [.val kn92]⟩
def kz56 : Z := ⟨[.val kn3, .val .fnc, .own kn125, .val kn92, .own kn126, .val kn51, .val (.tup [(.bl true), (.bl false)]), .val (.bl false), .val kn111], [.val kn92]⟩
def kz57 : Z := ⟨[.val kn3, .val .fnc, .own kn125, .val kn92, .own kn126, .val kn51, .val (.tup [(.bl true), (.bl false)]), .val (.bl false), .val kn116], [.val kn92]⟩
def kz58 : Z := ⟨[.val kn3, .val .fnc, .own kn125, .val kn92, .own kn126, .val kn56, .val (.tup [(.bl true), (.bl false)]), .val (.bl false), .val kn116], [.val kn92]⟩
def kz59 : Z := ⟨[.val kn3, .val .fnc, .own kn132, .val kn92, .own kn133, .val kn56, .val (.tup [(.bl true), (.bl true)]), .val (.bl false), .val kn129], [.val kn92]⟩
def kz60 : Z := ⟨[.val kn3, .val .fnc, .own kn132, .val kn92, .own kn133, .val kn58, .val (.tup [(.bl true), (.bl true)]), .val (.bl false), .val kn129], [.val kn92]⟩
def kz61 : Z := ⟨[.val kn3, .val .fnc, .own kn139, .val kn92, .own kn140, .val kn58, .val (.tup [(.bl true), (.bl true)]), .val (.bl false), .val kn136], [.val kn92]⟩
def kz62 : Z := ⟨[.val kn3, .val .fnc, .own kn139, .val kn92, .own kn140, .val kn59, .val (.tup [(.bl true), (.bl true)]), .val (.bl false), .val kn136], [.val kn92]⟩
def kz63 : Z := ⟨[.val kn3, .val .fnc, .own kn143, .val kn92, .own kn144, .val kn59, .val (.tup [(.bl true), (.bl false)]), .val (.bl false), .val kn141], [.val kn92]⟩
def kz64 : Z := ⟨[.val kn3, .val .fnc, .own kn143, .val kn92, .own kn144, .val kn66, .val (.tup [(.bl true), (.bl false)]), .val (.bl false), .val kn141], [.val kn92]⟩
def kz65 : Z := ⟨[.val kn3, .val .fnc, .own kn149, .val kn92, .own kn150, .val kn66, .val (.tup [(.bl true), (.bl true)]), .val (.bl false), .val kn146], [.val kn92]⟩
def kz66 : Z := ⟨[.val kn3, .val .fnc, .own kn149, .val kn92, .own kn150, .val kn68, .val (.tup [(.bl true), (.bl true)]), .val (.bl false), .val kn146], [.val kn92]⟩
def kz67 : Z := ⟨[.val kn3, .val .fnc, .own kn156, .val kn92, .own kn157, .val kn68, .val (.tup [(.bl true), (.bl true)]), .val (.bl false), .val kn153], [.val kn92]⟩
def kz68 : Z := ⟨[.val kn3, .val .fnc, .own kn156, .val kn92, .own kn157, .val kn69, .val (.tup [(.bl true), (.bl true)]), .val (.bl false), .val kn153], [.val kn92]⟩
def kz69 : Z := ⟨[.val kn3, .val .fnc, .own kn160, .val kn92, .own kn161, .val kn69, .val (.tup [(.bl true), (.bl false)]), .val (.bl false), .val kn153], [.val kn92]⟩
def kz70 : Z := ⟨[.val kn3, .val .fnc, .own kn160, .val kn92, .own kn161, .val kn75, .val (.tup [(.bl true), (.bl false)]), .val (.bl false), .val kn153], [.val kn92]⟩
def kz71 : Z := ⟨[.val kn3, .val .fnc, .own kn166, .val kn92, .own kn167, .val kn75, .val (.tup [(.bl true), (.bl false)]), .val (.bl false), .val kn163], [.val kn92]⟩
def kz72 : Z := ⟨[.val kn3, .val .fnc, .own kn166, .val kn92, .own kn167, .val kn76, .val (.tup [(.bl true), (.bl false)]), .val (.bl false), .val kn163], [.val kn92]⟩
def kz73 : Z := ⟨[.val kn3, .val .fnc, .own kn170, .val kn92, .own kn171, .val kn76, .val (.tup [(.bl true), (.bl false)]), .val (.bl false), .val kn168], [.val kn92]⟩
def kz74 : Z := ⟨[.val kn3, .val .fnc, .own kn170, .val kn92, .own kn171, .val kn81, .val (.tup [(.bl true), (.bl false)]), .val (.bl false), .val kn168], [.val kn92]⟩
def kz75 : Z := ⟨[.val kn3, .val .fnc, .own kn170, .val kn92, .own kn171, .val kn81, .val (.tup [(.bl true), (.bl false)]), .val (.bl false), .val kn129], [.val kn92]⟩
def kz76 : Z := ⟨[.val kn3, .val .fnc, .own kn170, .val kn92, .own kn171, .val kn82, .val (.tup [(.bl true), (.bl false)]), .val (.bl false), .val kn129], [.val kn92]⟩
def kz77 : Z := ⟨[.val kn3, .val .fnc, .own kn174, .val kn92, .own kn175, .val kn82, .val (.tup [(.bl true), (.bl false)]), .val (.bl false), .val kn172], [.val kn92]⟩
def kz78 : Z := ⟨[.val kn3, .val .fnc, .own kn174, .val kn92, .own kn175, .val kn87, .val (.tup [(.bl true), (.bl false)]), .val (.bl false), .val kn172], [.val kn92]⟩
def kz79 : Z := ⟨[.val kn3, .val .fnc, .own kn174, .val kn92, .own kn175, .val kn87, .val (.tup [(.bl true), (.bl false)]), .val (.bl false), .val kn146], [.val kn92]⟩
def kz80 : Z := ⟨[.val kn3, .val .fnc, .own kn174, .val kn92, .own kn175, .val kn88, .val (.tup [(.bl true), (.bl false)]), .val (.bl false), .val kn146], [.val kn92]⟩
def kz81 : Z := ⟨[.val kn3, .val .fnc, .val kn174, .val kn92, .own kn175, .val kn88, .val (.tup [(.bl false), (.bl false)]), .val (.bl true), .val kn176], [.val (.tup [kn174, kn177]), .val kn92]⟩
def kz82 : Z := ⟨[.val kn3, .val .fnc, .val kn174, .val kn92, .own kn175, .val kn88, .val (.tup [(.bl false), (.bl false)]), .val (.bl true), .val kn176], [.val (.tup [kn174, kn177])]⟩
def kz83 : Z := ⟨[.val (.obj "Week" ["days", "matches"] [(.int 5), kn0]), .val kn1, .val kn2, .val kn3, .no, .no, .no, .no, .no], [.val (.tup [kn174, kn177])]⟩
def kl_1 : List T := [kn3]
def kl_2 : List T := [kn4, kn6, kn7]
def kl_3 : List T := [kn11, kn13, kn14, kn20, kn22, kn23, kn28, kn29]
def kl_4 : List T := [kn33, kn35, kn36, kn42, kn44, kn45, kn50, kn51, kn56, kn58, kn59, kn66, kn68, kn69, kn75, kn76, kn81, kn82, kn87, kn88]
theorem kw_1 : gW kz3 = some (true, kz3) := by kernel_rfl
theorem kv_1 : sw1 kz3 = some (.nx kz4) := by kernel_rfl
theorem ki_1 : iL kz4 = some (kz5, scL) := by kernel_rfl
theorem ks_1_0 : scL kz5 = some kl_1 := by kernel_rfl
theorem kg_1_0 : gL ⟨kz5.l, .val kn3 :: kz5.k⟩ = some kz6 := by kernel_rfl
theorem kb_1_0 : swB GP kz6 = some (.nx kz7) := by kernel_rfl
theorem kc_1 : (kl_1.length == 1) = true := by kernel_rfl
theorem ks_1_1 : scL kz7 = some kl_1 := by kernel_rfl
theorem ke_1 : drN 1 kz7 = kz8 := by kernel_rfl
theorem kx_1 : sw3 kz8 = some (.nx kz9) := by kernel_rfl
theorem kf_1 : sIn GP kz4 = some (.nx kz8) := (sFor_st ki_1 ks_1_0 (n := 1) (by kernel_rfl)).trans ((frL_nx (x := kn3) ks_1_0 kc_1 (by kernel_rfl) kg_1_0 kb_1_0).trans (frL_end ks_1_1 kc_1 ke_1))
theorem kq_1 : swW GP kz3 = some (.nx kz9) := (sSeq_nx kv_1).trans ((sSeq_nx kf_1).trans kx_1)
theorem kw_2 : gW kz9 = some (true, kz9) := by kernel_rfl
theorem kv_2 : sw1 kz9 = some (.nx kz10) := by kernel_rfl
theorem ki_2 : iL kz10 = some (kz11, scL) := by kernel_rfl
theorem ks_2_0 : scL kz11 = some kl_2 := by kernel_rfl
theorem kg_2_0 : gL ⟨kz11.l, .val kn4 :: kz11.k⟩ = some kz12 := by kernel_rfl
theorem kb_2_0 : swB GP kz12 = some (.nx kz13) := by kernel_rfl
theorem ks_2_1 : scL kz13 = some kl_2 := by kernel_rfl
theorem kg_2_1 : gL ⟨kz13.l, .val kn6 :: kz13.k⟩ = some kz14 := by kernel_rfl
theorem kb_2_1 : swB GP kz14 = some (.nx kz15) := by kernel_rfl
theorem ks_2_2 : scL kz15 = some kl_2 := by kernel_rfl
theorem kg_2_2 : gL ⟨kz15.l, .val kn7 :: kz15.k⟩ = some kz16 := by kernel_rfl
theorem kb_2_2 : swB GP kz16 = some (.nx kz17) := by kernel_rfl
theorem kc_2 : (kl_2.length == 3) = true := by kernel_rfl
theorem ks_2_3 : scL kz17 = some kl_2 := by kernel_rfl
theorem ke_2 : drN 1 kz17 = kz18 := by kernel_rfl
theorem kx_2 : sw3 kz18 = some (.nx kz19) := by kernel_rfl
theorem kf_2 : sIn GP kz10 = some (.nx kz18) := (sFor_st ki_2 ks_2_0 (n := 3) (by kernel_rfl)).trans ((frL_nx (x := kn4) ks_2_0 kc_2 (by kernel_rfl) kg_2_0 kb_2_0).trans ((frL_nx (x := kn6) ks_2_1 kc_2 (by kernel_rfl) kg_2_1 kb_2_1).trans ((frL_nx (x := kn7) ks_2_2 kc_2 (by kernel_rfl) kg_2_2 kb_2_2).trans (frL_end ks_2_3 kc_2 ke_2))))
theorem kq_2 : swW GP kz9 = some (.nx kz19) := (sSeq_nx kv_2).trans ((sSeq_nx kf_2).trans kx_2)
theorem kw_3 : gW kz19 = some (true, kz19) := by kernel_rfl
theorem kv_3 : sw1 kz19 = some (.nx kz20) := by kernel_rfl
theorem ki_3 : iL kz20 = some (kz21, scL) := by kernel_rfl
theorem ks_3_0 : scL kz21 = some kl_3 := by kernel_rfl
theorem kg_3_0 : gL ⟨kz21.l, .val kn11 :: kz21.k⟩ = some kz22 := by kernel_rfl
theorem kb_3_0 : swB GP kz22 = some (.nx kz23) := by kernel_rfl
theorem ks_3_1 : scL kz23 = some kl_3 := by kernel_rfl
theorem kg_3_1 : gL ⟨kz23.l, .val kn13 :: kz23.k⟩ = some kz24 := by kernel_rfl
theorem kb_3_1 : swB GP kz24 = some (.nx kz25) := by kernel_rfl
theorem ks_3_2 : scL kz25 = some kl_3 := by kernel_rfl
theorem kg_3_2 : gL ⟨kz25.l, .val kn14 :: kz25.k⟩ = some kz26 := by kernel_rfl
theorem kb_3_2 : swB GP kz26 = some (.nx kz27) := by kernel_rfl
theorem ks_3_3 : scL kz27 = some kl_3 := by kernel_rfl
theorem kg_3_3 : gL ⟨kz27.l, .val kn20 :: kz27.k⟩ = some kz28 := by kernel_rfl
theorem kb_3_3 : swB GP kz28 = some (.nx kz29) := by kernel_rfl
theorem ks_3_4 : scL kz29 = some kl_3 := by kernel_rfl
theorem kg_3_4 : gL ⟨kz29.l, .val kn22 :: kz29.k⟩ = some kz30 := by kernel_rfl
theorem kb_3_4 : swB GP kz30 = some (.nx kz31) := by kernel_rfl
theorem ks_3_5 : scL kz31 = some kl_3 := by kernel_rfl
theorem kg_3_5 : gL ⟨kz31.l, .val kn23 :: kz31.k⟩ = some kz32 := by kernel_rfl
theorem kb_3_5 : swB GP kz32 = some (.nx kz33) := by kernel_rfl
theorem ks_3_6 : scL kz33 = some kl_3 := by kernel_rfl
theorem kg_3_6 : gL ⟨kz33.l, .val kn28 :: kz33.k⟩ = some kz34 := by kernel_rfl
theorem kb_3_6 : swB GP kz34 = some (.nx kz35) := by kernel_rfl
theorem ks_3_7 : scL kz35 = some kl_3 := by kernel_rfl
theorem kg_3_7 : gL ⟨kz35.l, .val kn29 :: kz35.k⟩ = some kz36 := by kernel_rfl
theorem kb_3_7 : swB GP kz36 = some (.nx kz37) := by kernel_rfl
theorem kc_3 : (kl_3.length == 8) = true := by kernel_rfl
theorem ks_3_8 : scL kz37 = some kl_3 := by kernel_rfl
theorem ke_3 : drN 1 kz37 = kz38 := by kernel_rfl
theorem kx_3 : sw3 kz38 = some (.nx kz39) := by kernel_rfl
theorem kf_3 : sIn GP kz20 = some (.nx kz38) := (sFor_st ki_3 ks_3_0 (n := 8) (by kernel_rfl)).trans ((frL_nx (x := kn11) ks_3_0 kc_3 (by kernel_rfl) kg_3_0 kb_3_0).trans ((frL_nx (x := kn13) ks_3_1 kc_3 (by kernel_rfl) kg_3_1 kb_3_1).trans ((frL_nx (x := kn14) ks_3_2 kc_3 (by kernel_rfl) kg_3_2 kb_3_2).trans ((frL_nx (x := kn20) ks_3_3 kc_3 (by kernel_rfl) kg_3_3 kb_3_3).trans ((frL_nx (x := kn22) ks_3_4 kc_3 (by kernel_rfl) kg_3_4 kb_3_4).trans ((frL_nx (x := kn23) ks_3_5 kc_3 (by kernel_rfl) kg_3_5 kb_3_5).trans ((frL_nx (x := kn28) ks_3_6 kc_3 (by kernel_rfl) kg_3_6 kb_3_6).trans ((frL_nx (x := kn29) ks_3_7 kc_3 (by kernel_rfl) kg_3_7 kb_3_7).trans (frL_end ks_3_8 kc_3 ke_3)))))))))
theorem kq_3 : swW GP kz19 = some (.nx kz39) := (sSeq_nx kv_3).trans ((sSeq_nx kf_3).trans kx_3)
theorem kw_4 : gW kz39 = some (true, kz39) := by kernel_rfl
theorem kv_4 : sw1 kz39 = some (.nx kz40) := by kernel_rfl
theorem ki_4 : iL kz40 = some (kz41, scL) := by kernel_rfl
theorem ks_4_0 : scL kz41 = some kl_4 := by kernel_rfl
theorem kg_4_0 : gL ⟨kz41.l, .val kn33 :: kz41.k⟩ = some kz42 := by kernel_rfl
theorem kb_4_0 : swB GP kz42 = some (.nx kz43) := by kernel_rfl
theorem ks_4_1 : scL kz43 = some kl_4 := by kernel_rfl
theorem kg_4_1 : gL ⟨kz43.l, .val kn35 :: kz43.k⟩ = some kz44 := by kernel_rfl
theorem kb_4_1 : swB GP kz44 = some (.nx kz45) := by kernel_rfl
theorem ks_4_2 : scL kz45 = some kl_4 := by kernel_rfl
theorem kg_4_2 : gL ⟨kz45.l, .val kn36 :: kz45.k⟩ = some kz46 := by kernel_rfl
theorem kb_4_2 : swB GP kz46 = some (.nx kz47) := by kernel_rfl
theorem ks_4_3 : scL kz47 = some kl_4 := by kernel_rfl
theorem kg_4_3 : gL ⟨kz47.l, .val kn42 :: kz47.k⟩ = some kz48 := by kernel_rfl
theorem kb_4_3 : swB GP kz48 = some (.nx kz49) := by kernel_rfl
theorem ks_4_4 : scL kz49 = some kl_4 := by kernel_rfl
theorem kg_4_4 : gL ⟨kz49.l, .val kn44 :: kz49.k⟩ = some kz50 := by kernel_rfl
theorem kb_4_4 : swB GP kz50 = some (.nx kz51) := by kernel_rfl
theorem ks_4_5 : scL kz51 = some kl_4 := by kernel_rfl
theorem kg_4_5 : gL ⟨kz51.l, .val kn45 :: kz51.k⟩ = some kz52 := by kernel_rfl
theorem kb_4_5 : swB GP kz52 = some (.nx kz53) := by kernel_rfl
theorem ks_4_6 : scL kz53 = some kl_4 := by kernel_rfl
theorem kg_4_6 : gL ⟨kz53.l, .val kn50 :: kz53.k⟩ = some kz54 := by kernel_rfl
theorem kb_4_6 : swB GP kz54 = some (.nx kz55) := by kernel_rfl
theorem ks_4_7 : scL kz55 = some kl_4 := by kernel_rfl
theorem kg_4_7 : gL ⟨kz55.l, .val kn51 :: kz55.k⟩ = some kz56 := by kernel_rfl
theorem kb_4_7 : swB GP kz56 = some (.nx kz57) := by kernel_rfl
theorem ks_4_8 : scL kz57 = some kl_4 := by kernel_rfl
theorem kg_4_8 : gL ⟨kz57.l, .val kn56 :: kz57.k⟩ = some kz58 := by kernel_rfl
theorem kb_4_8 : swB GP kz58 = some (.nx kz59) := by kernel_rfl
theorem ks_4_9 : scL kz59 = some kl_4 := by kernel_rfl
theorem kg_4_9 : gL ⟨kz59.l, .val kn58 :: kz59.k⟩ = some kz60 := by kernel_rfl
theorem kb_4_9 : swB GP kz60 = some (.nx kz61) := by kernel_rfl
theorem ks_4_10 : scL kz61 = some kl_4 := by kernel_rfl
theorem kg_4_10 : gL ⟨kz61.l, .val kn59 :: kz61.k⟩ = some kz62 := by kernel_rfl
theorem kb_4_10 : swB GP kz62 = some (.nx kz63) := by kernel_rfl
theorem ks_4_11 : scL kz63 = some kl_4 := by kernel_rfl
theorem kg_4_11 : gL ⟨kz63.l, .val kn66 :: kz63.k⟩ = some kz64 := by kernel_rfl
theorem kb_4_11 : swB GP kz64 = some (.nx kz65) := by kernel_rfl
theorem ks_4_12 : scL kz65 = some kl_4 := by kernel_rfl
theorem kg_4_12 : gL ⟨kz65.l, .val kn68 :: kz65.k⟩ = some kz66 := by kernel_rfl
theorem kb_4_12 : swB GP kz66 = some (.nx kz67) := by kernel_rfl
theorem ks_4_13 : scL kz67 = some kl_4 := by kernel_rfl
theorem kg_4_13 : gL ⟨kz67.l, .val kn69 :: kz67.k⟩ = some kz68 := by kernel_rfl
theorem kb_4_13 : swB GP kz68 = some (.nx kz69) := by kernel_rfl
theorem ks_4_14 : scL kz69 = some kl_4 := by kernel_rfl
theorem kg_4_14 : gL ⟨kz69.l, .val kn75 :: kz69.k⟩ = some kz70 := by kernel_rfl
theorem kb_4_14 : swB GP kz70 = some (.nx kz71) := by kernel_rfl
theorem ks_4_15 : scL kz71 = some kl_4 := by kernel_rfl
theorem kg_4_15 : gL ⟨kz71.l, .val kn76 :: kz71.k⟩ = some kz72 := by kernel_rfl
theorem kb_4_15 : swB GP kz72 = some (.nx kz73) := by kernel_rfl
theorem ks_4_16 : scL kz73 = some kl_4 := by kernel_rfl
theorem kg_4_16 : gL ⟨kz73.l, .val kn81 :: kz73.k⟩ = some kz74 := by kernel_rfl
theorem kb_4_16 : swB GP kz74 = some (.nx kz75) := by kernel_rfl
theorem ks_4_17 : scL kz75 = some kl_4 := by kernel_rfl
theorem kg_4_17 : gL ⟨kz75.l, .val kn82 :: kz75.k⟩ = some kz76 := by kernel_rfl
theorem kb_4_17 : swB GP kz76 = some (.nx kz77) := by kernel_rfl
theorem ks_4_18 : scL kz77 = some kl_4 := by kernel_rfl
theorem kg_4_18 : gL ⟨kz77.l, .val kn87 :: kz77.k⟩ = some kz78 := by kernel_rfl
theorem kb_4_18 : swB GP kz78 = some (.nx kz79) := by kernel_rfl
theorem ks_4_19 : scL kz79 = some kl_4 := by kernel_rfl
theorem kg_4_19 : gL ⟨kz79.l, .val kn88 :: kz79.k⟩ = some kz80 := by kernel_rfl
theorem kb_4_19 : swB GP kz80 = some (.rt kz81) := by kernel_rfl
theorem kc_4 : (kl_4.length == 20) = true := by kernel_rfl
theorem kr_4 : drU 1 kz81 = kz82 := by kernel_rfl
theorem kf_4 : sIn GP kz40 = some (.rt kz82) := (sFor_st ki_4 ks_4_0 (n := 20) (by kernel_rfl)).trans ((frL_nx (x := kn33) ks_4_0 kc_4 (by kernel_rfl) kg_4_0 kb_4_0).trans ((frL_nx (x := kn35) ks_4_1 kc_4 (by kernel_rfl) kg_4_1 kb_4_1).trans ((frL_nx (x := kn36) ks_4_2 kc_4 (by kernel_rfl) kg_4_2 kb_4_2).trans ((frL_nx (x := kn42) ks_4_3 kc_4 (by kernel_rfl) kg_4_3 kb_4_3).trans ((frL_nx (x := kn44) ks_4_4 kc_4 (by kernel_rfl) kg_4_4 kb_4_4).trans ((frL_nx (x := kn45) ks_4_5 kc_4 (by kernel_rfl) kg_4_5 kb_4_5).trans ((frL_nx (x := kn50) ks_4_6 kc_4 (by kernel_rfl) kg_4_6 kb_4_6).trans ((frL_nx (x := kn51) ks_4_7 kc_4 (by kernel_rfl) kg_4_7 kb_4_7).trans ((frL_nx (x := kn56) ks_4_8 kc_4 (by kernel_rfl) kg_4_8 kb_4_8).trans ((frL_nx (x := kn58) ks_4_9 kc_4 (by kernel_rfl) kg_4_9 kb_4_9).trans ((frL_nx (x := kn59) ks_4_10 kc_4 (by kernel_rfl) kg_4_10 kb_4_10).trans ((frL_nx (x := kn66) ks_4_11 kc_4 (by kernel_rfl) kg_4_11 kb_4_11).trans ((frL_nx (x := kn68) ks_4_12 kc_4 (by kernel_rfl) kg_4_12 kb_4_12).trans ((frL_nx (x := kn69) ks_4_13 kc_4 (by kernel_rfl) kg_4_13 kb_4_13).trans ((frL_nx (x := kn75) ks_4_14 kc_4 (by kernel_rfl) kg_4_14 kb_4_14).trans ((frL_nx (x := kn76) ks_4_15 kc_4 (by kernel_rfl) kg_4_15 kb_4_15).trans ((frL_nx (x := kn81) ks_4_16 kc_4 (by kernel_rfl) kg_4_16 kb_4_16).trans ((frL_nx (x := kn82) ks_4_17 kc_4 (by kernel_rfl) kg_4_17 kb_4_17).trans ((frL_nx (x := kn87) ks_4_18 kc_4 (by kernel_rfl) kg_4_18 kb_4_18).trans (frL_rt (x := kn88) ks_4_19 kc_4 (by kernel_rfl) kg_4_19 kb_4_19 kr_4))))))))))))))))))))
theorem kq_4 : swW GP kz39 = some (.rt kz82) := (sSeq_nx kv_4).trans (sSeq_rt kf_4)
theorem kh_4 : sWh gW (swW GP) 99997 kz39 = some (.rt kz82) := sWh_rt kw_4 kq_4
theorem kh_3 : sWh gW (swW GP) 99998 kz19 = some (.rt kz82) := (sWh_nx kw_3 kq_3).trans kh_4
theorem kh_2 : sWh gW (swW GP) 99999 kz9 = some (.rt kz82) := (sWh_nx kw_2 kq_2).trans kh_3
theorem kh_1 : sWh gW (swW GP) 100000 kz3 = some (.rt kz82) := (sWh_nx kw_1 kq_1).trans kh_2
theorem kc1 : sc1 kz1 = some (.nx kz2) := by kernel_rfl
theorem kc2 : sc2 kz2 = some (.nx kz3) := by kernel_rfl
theorem srch : rd_Search GP kz1 = some (.rt kz82) := by
  rw [search_eq]
  exact (sSeq_nx kc1).trans ((sSeq_nx kc2).trans (sSeq_rt kh_1))
theorem run37 : runF 2 7 (rd_Search GP) [.val f0T, .val .fnc] = some ([.no, .no], .val resT) := runF_rt (n := 2) (m := 7) (s := rd_Search GP) srch rfl (x := (kz82.l, .val resT)) rfl
end L37
set_option Elab.async false
set_option linter.all false
set_option maxRecDepth 100000
set_option maxHeartbeats 4000000
namespace L37
open PySem PySem.Spec PyProof.Rows L2 Rw Fn LamX

def pr1 : SF := (sPut (fTup 4 (f2 (fC (.int 0)) (f2 (fC tSTART) (f2 (fC (.bl false)) (f2 (fCall 1 F_FirstRain [] (f2 (fFrz (fV 2)) f0)) f0))))) (put 3))
def pr2 : SF := (sPut (fLC rd_Search 7 (fCall 4 F_Steps [] (f2 (fFrz (fV 0)) (f2 (fFrz (fV 1)) (f2 (fFrz (fV 2)) (f2 (fFrz (fV 9)) f0))))) (fV 3)) (f2 (un 2) (f2 (put 4) (f2 (put 5) some))))
def pr3 : SF := (sIf (gE (fB (oIsN false) (fV 5) (fC .non)))
  (sRet (fC .non))
  sNil)
def pr4 : SF := (sPut (fLc (fSq (fV 5)) 1 [4, 7] (f2 (un 2) (f2 (put 4) (f2 (put 7) some))) gYes (fV 7)) (put 6))
def pr5 : SF := (sRet (fTup 2 (f2 (fCB 1 oTup (f2 (fLc (fSq (fV 5)) 1 [8, 4] (f2 (un 2) (f2 (put 8) (f2 (put 4) some))) gYes (fV 8)) f0)) (f2 (fIndex (fV 6) (f2 (fC (.bl true)) f0)) f0))))
def prG : GF := (f2 (un 2) (f2 (put 4) (f2 (put 5) some)))
theorem pr_eq : rd_PerverseRain = sSeq pr1 (sSeq pr2 (sSeq pr3 (sSeq pr4 pr5))) := rfl
theorem pr2_eq : pr2 = sPut (fLC rd_Search 7 fbP (fV 3)) prG := rfl
def ql : List Sl := [.val lateT, .val rulT, .val meaT, .val f0T, .no, .no, .no, .no, .no]
theorem pr1_ok : pr1 ⟨[.val lateT, .val rulT, .val meaT, .no, .no, .no, .no, .no, .no], []⟩ = some (.nx ⟨ql, []⟩) := by kernel_rfl
theorem gp_eq : gAct (ql.map keepVal) fbP = GP := by kernel_rfl
theorem f0_ok : fV 3 ⟨ql, []⟩ = some ⟨ql, [.val f0T]⟩ := by kernel_rfl
theorem nof_ok : (ql.all nofSl && [Sl.val resT].all nofSl) = true := by kernel_rfl
theorem fl_ok : fLC rd_Search 7 fbP (fV 3) ⟨ql, []⟩ = some ⟨ql, [.val resT]⟩ := fLC_ok f0_ok gp_eq run37 nof_ok
theorem prG_ok : prG ⟨ql, [.val resT]⟩ = some ⟨[.val lateT, .val rulT, .val meaT, .val f0T, .val kn174, .val kn177, .no, .no, .no], []⟩ := by kernel_rfl
theorem pr2_ok : pr2 ⟨ql, []⟩ = some (.nx ⟨[.val lateT, .val rulT, .val meaT, .val f0T, .val kn174, .val kn177, .no, .no, .no], []⟩) := pr2_eq ▸ sPut_ok fl_ok prG_ok
def prT : T := .tup [.tup [.bl true, .bl true, .bl true, .bl false], .int 0]
def prZ : Z := match sSeq pr3 (sSeq pr4 pr5) ⟨[.val lateT, .val rulT, .val meaT, .val f0T, .val kn174, .val kn177, .no, .no, .no], []⟩ with
  | some (.rt z) => z
  | _ => ⟨[], []⟩
theorem pr345 : sSeq pr3 (sSeq pr4 pr5) ⟨[.val lateT, .val rulT, .val meaT, .val f0T, .val kn174, .val kn177, .no, .no, .no], []⟩ = some (.rt prZ) := by kernel_rfl
theorem pr_rd : rd_PerverseRain ⟨[.val lateT, .val rulT, .val meaT, .no, .no, .no, .no, .no, .no], []⟩ = some (.rt prZ) := by
  rw [pr_eq]
  exact (sSeq_nx pr1_ok).trans ((sSeq_nx pr2_ok).trans pr345)
theorem pr_out : (if Nat.ble 3 prZ.l.length = true then (rv prZ).map (fun x => (outs 3 x.1, x.2)) else none) = some ([.no, .no, .no], .val prT) := by kernel_rfl
theorem st_eq : (⟨[.val lateT, .val rulT, .val meaT] ++ List.replicate 6 .no, []⟩ : Z) = ⟨[.val lateT, .val rulT, .val meaT, .no, .no, .no, .no, .no, .no], []⟩ := by kernel_rfl
theorem pr_st : rd_PerverseRain ⟨[.val lateT, .val rulT, .val meaT] ++ List.replicate 6 .no, []⟩ = some (.rt prZ) := by
  rw [st_eq]
  exact pr_rd
theorem pr_ex : ∃ z : Z, rd_PerverseRain ⟨[.val lateT, .val rulT, .val meaT] ++ List.replicate 6 .no, []⟩ = some (.rt z) ∧ (if Nat.ble 3 z.l.length = true then (rv z).map (fun x => (outs 3 x.1, x.2)) else none) = some ([.no, .no, .no], .val prT) := ⟨prZ, pr_st, pr_out⟩
theorem pr_ok : F_PerverseRain [.val lateT, .val rulT, .val meaT] = some ([.no, .no, .no], .val prT) := by
  obtain ⟨z, h1, h2⟩ := pr_ex
  exact runF_out (n := 3) (m := 6) (s := rd_PerverseRain) h1 h2
theorem pv_gen {F : FT} {a b c : T} {ts : List T} (h : F [.val a, .val b, .val c] = some ([.no, .no, .no], .val (.tup ts))) : runF 3 0 (sRet (fB (oIsN true) (fCall 3 F [] (f2 (fFrz (fV 0)) (f2 (fFrz (fV 1)) (f2 (fFrz (fV 2)) f0)))) (fC .non))) [.val a, .val b, .val c] = some ([.no, .no, .no], .val (.bl true)) := by
  unfold runF
  simp [sRet, fB, fCall, callK, lend, toArg, fFrz, frz1, f2, f0, fV, fC, fz, pp, o2, oIsN, h, okOut, isRes, back, bk, rv, outs, ioOf, Sl.tree, T.isN]
theorem pv_ok : F_Perverse [.val lateT, .val rulT, .val meaT] = some ([.no, .no, .no], .val (.bl true)) := pv_gen pr_ok

end L37
set_option Elab.async false
set_option linter.all false
set_option maxRecDepth 100000
set_option maxHeartbeats 4000000
namespace L37
open PySem PySem.Spec PyProof.Rows L2 Rw Fn LamX

def pA : EF := (f2 (fFrz (fV 10)) (f2 (fFrz (fMake "Rule" 3 F_RuleInit [.str "first"] (f2 (fC (.int 1)) (f2 (fC (.int 6)) (f2 (fFrz (fTup 2 (f2 (fC (.int 3)) (f2 (fC (.int 4)) f0)))) f0))))) (f2 (fFrz (fMake "Measure" 2 F_MeasureInit [] (f2 (fC (.int 2)) (f2 (fC (.int 2)) f0)))) f0)))
theorem pA_own (x0 x1 x2 x3 x4 x5 x6 x7 x8 x9 : Sl) : pA ⟨[x0, x1, x2, x3, x4, x5, x6, x7, x8, x9, .own lateT], []⟩ = some ⟨[x0, x1, x2, x3, x4, x5, x6, x7, x8, x9, .val lateT], [.val meaT, .val rulT, .val lateT]⟩ := by kernel_rfl
theorem pA_val (x0 x1 x2 x3 x4 x5 x6 x7 x8 x9 : Sl) : pA ⟨[x0, x1, x2, x3, x4, x5, x6, x7, x8, x9, .val lateT], []⟩ = some ⟨[x0, x1, x2, x3, x4, x5, x6, x7, x8, x9, .val lateT], [.val meaT, .val rulT, .val lateT]⟩ := by kernel_rfl
theorem lg14_eq : lg14 = sIf (gE (fB (oIsB true) (fCall 3 F_Perverse [] pA) (fC (.bl true)))) (sRet (fC (.bl false))) sNil := rfl
def pE : T := .tup [.tup [.bl true, .bl true, .bl true, .bl false], .int 0]
def pF : EF := (fTup 2 (f2 (fTup 4 (f2 (fC (.bl true)) (f2 (fC (.bl true)) (f2 (fC (.bl true)) (f2 (fC (.bl false)) f0))))) (f2 (fC (.int 0)) f0)))
theorem lg15_eq : lg15 = sIf (gE (fB (oEqD true) (fCall 3 F_PerverseRain [] pA) pF)) (sRet (fC (.bl false))) sNil := rfl
theorem pF_ok (l : List Sl) (t : Sl) : pF ⟨l, [t]⟩ = some ⟨l, [.val pE, t]⟩ := by kernel_rfl
theorem o2_pe (l : List Sl) : o2 (oEqD true) ⟨l, [.val pE, .val prT]⟩ = some ⟨l, [.val (.bl false)]⟩ := by kernel_rfl
theorem l14 {x0 x1 x2 x3 x4 x5 x6 x7 x8 x9 : Sl} : lg14 ⟨[x0, x1, x2, x3, x4, x5, x6, x7, x8, x9, .own lateT], []⟩ = some (.nx ⟨[x0, x1, x2, x3, x4, x5, x6, x7, x8, x9, .val lateT], []⟩) := by
  rw [lg14_eq, sIf_f (gE_ok (b := false) (k := []) (fB_gives (g := fC (.bl true)) (o := oIsB true) (fCall_3 (k := []) (pA_own x0 x1 x2 x3 x4 x5 x6 x7 x8 x9) pv_ok) rfl rfl))]
  rfl
theorem l15 {x0 x1 x2 x3 x4 x5 x6 x7 x8 x9 : Sl} : lg15 ⟨[x0, x1, x2, x3, x4, x5, x6, x7, x8, x9, .val lateT], []⟩ = some (.nx ⟨[x0, x1, x2, x3, x4, x5, x6, x7, x8, x9, .val lateT], []⟩) := by
  rw [lg15_eq, sIf_f (gE_ok (b := false) (k := []) (fB_gives (g := pF) (o := oEqD true) (fCall_3 (k := []) (pA_val x0 x1 x2 x3 x4 x5 x6 x7 x8 x9) pr_ok) (pF_ok _ _) (o2_pe _)))]
  rfl

end L37
set_option Elab.async false
set_option linter.all false
set_option maxRecDepth 100000
set_option maxHeartbeats 4000000
namespace L37
open PySem PySem.Spec PyProof.Rows L2 Rw Fn LamX
theorem p2n_2 {scr k bx : T} {x6 x7 x8 x9 x10 : Sl} : lg2 ⟨[.val scr, .val k, .own bx, .val (.int 2), .no, .no, x6, x7, x8, x9, x10], []⟩ = some (.nx ⟨[.val scr, .val k, .own bx, .val (.int 2), .own (.obj "Measure" ["most", "span"] [(.int 1), (.int 2)]), .own (.obj "Week" ["days", "matches"] [(.int 3), (.tup [(.tup [(.int 0), (.str "ann"), (.str "bob")])])]), x6, x7, x8, x9, x10], []⟩) := by kernel_rfl
theorem p2v_2 {scr k bx : T} {x6 x7 x8 x9 x10 : Sl} {y4 y5 : T} : lg2 ⟨[.val scr, .val k, .own bx, .val (.int 2), .val y4, .val y5, x6, x7, x8, x9, x10], []⟩ = some (.nx ⟨[.val scr, .val k, .own bx, .val (.int 2), .own (.obj "Measure" ["most", "span"] [(.int 1), (.int 2)]), .own (.obj "Week" ["days", "matches"] [(.int 3), (.tup [(.tup [(.int 0), (.str "ann"), (.str "bob")])])]), x6, x7, x8, x9, x10], []⟩) := by kernel_rfl
theorem p3n_2 {scr k bx : T} {x9 x10 : Sl} : lg3 ⟨[.val scr, .val k, .own bx, .val (.int 2), .own (.obj "Measure" ["most", "span"] [(.int 1), (.int 2)]), .own (.obj "Week" ["days", "matches"] [(.int 3), (.tup [(.tup [(.int 0), (.str "ann"), (.str "bob")])])]), .no, .no, .no, x9, x10], []⟩ = some (.nx ⟨[.val scr, .val k, .own bx, .val (.int 2), .own (.obj "Measure" ["most", "span"] [(.int 1), (.int 2)]), .own (.obj "Week" ["days", "matches"] [(.int 3), (.tup [(.tup [(.int 0), (.str "ann"), (.str "bob")])])]), .own (.obj "Rule" ["gap", "window", "let", "order"] [(.int 1), (.int 6), (.tup [(.int 1), (.int 2)]), (.str "first")]), .own (.obj "Rule" ["gap", "window", "let", "order"] [(.int 1), (.int 6), (.tup [(.int 2)]), (.str "first")]), .own (.obj "Rule" ["gap", "window", "let", "order"] [(.int 1), (.int 6), (.tup []), (.str "first")]), x9, x10], []⟩) := by kernel_rfl
theorem p3v_2 {scr k bx : T} {x9 x10 : Sl} {y6 y7 y8 : T} : lg3 ⟨[.val scr, .val k, .own bx, .val (.int 2), .own (.obj "Measure" ["most", "span"] [(.int 1), (.int 2)]), .own (.obj "Week" ["days", "matches"] [(.int 3), (.tup [(.tup [(.int 0), (.str "ann"), (.str "bob")])])]), .val y6, .val y7, .val y8, x9, x10], []⟩ = some (.nx ⟨[.val scr, .val k, .own bx, .val (.int 2), .own (.obj "Measure" ["most", "span"] [(.int 1), (.int 2)]), .own (.obj "Week" ["days", "matches"] [(.int 3), (.tup [(.tup [(.int 0), (.str "ann"), (.str "bob")])])]), .own (.obj "Rule" ["gap", "window", "let", "order"] [(.int 1), (.int 6), (.tup [(.int 1), (.int 2)]), (.str "first")]), .own (.obj "Rule" ["gap", "window", "let", "order"] [(.int 1), (.int 6), (.tup [(.int 2)]), (.str "first")]), .own (.obj "Rule" ["gap", "window", "let", "order"] [(.int 1), (.int 6), (.tup []), (.str "first")]), x9, x10], []⟩) := by kernel_rfl
theorem p4_2 {scr k bx : T} {x9 x10 : Sl} : lg4 ⟨[.val scr, .val k, .own bx, .val (.int 2), .own (.obj "Measure" ["most", "span"] [(.int 1), (.int 2)]), .own (.obj "Week" ["days", "matches"] [(.int 3), (.tup [(.tup [(.int 0), (.str "ann"), (.str "bob")])])]), .own (.obj "Rule" ["gap", "window", "let", "order"] [(.int 1), (.int 6), (.tup [(.int 1), (.int 2)]), (.str "first")]), .own (.obj "Rule" ["gap", "window", "let", "order"] [(.int 1), (.int 6), (.tup [(.int 2)]), (.str "first")]), .own (.obj "Rule" ["gap", "window", "let", "order"] [(.int 1), (.int 6), (.tup []), (.str "first")]), x9, x10], []⟩ = some (.nx ⟨[.val scr, .val k, .own bx, .val (.int 2), .val (.obj "Measure" ["most", "span"] [(.int 1), (.int 2)]), .val (.obj "Week" ["days", "matches"] [(.int 3), (.tup [(.tup [(.int 0), (.str "ann"), (.str "bob")])])]), .val (.obj "Rule" ["gap", "window", "let", "order"] [(.int 1), (.int 6), (.tup [(.int 1), (.int 2)]), (.str "first")]), .val (.obj "Rule" ["gap", "window", "let", "order"] [(.int 1), (.int 6), (.tup [(.int 2)]), (.str "first")]), .own (.obj "Rule" ["gap", "window", "let", "order"] [(.int 1), (.int 6), (.tup []), (.str "first")]), x9, x10], []⟩) := by kernel_rfl
theorem p5_2 {scr k bx : T} {x9 x10 : Sl} : lg5 ⟨[.val scr, .val k, .own bx, .val (.int 2), .val (.obj "Measure" ["most", "span"] [(.int 1), (.int 2)]), .val (.obj "Week" ["days", "matches"] [(.int 3), (.tup [(.tup [(.int 0), (.str "ann"), (.str "bob")])])]), .val (.obj "Rule" ["gap", "window", "let", "order"] [(.int 1), (.int 6), (.tup [(.int 1), (.int 2)]), (.str "first")]), .val (.obj "Rule" ["gap", "window", "let", "order"] [(.int 1), (.int 6), (.tup [(.int 2)]), (.str "first")]), .own (.obj "Rule" ["gap", "window", "let", "order"] [(.int 1), (.int 6), (.tup []), (.str "first")]), x9, x10], []⟩ = some (.nx ⟨[.val scr, .val k, .own bx, .val (.int 2), .val (.obj "Measure" ["most", "span"] [(.int 1), (.int 2)]), .val (.obj "Week" ["days", "matches"] [(.int 3), (.tup [(.tup [(.int 0), (.str "ann"), (.str "bob")])])]), .val (.obj "Rule" ["gap", "window", "let", "order"] [(.int 1), (.int 6), (.tup [(.int 1), (.int 2)]), (.str "first")]), .val (.obj "Rule" ["gap", "window", "let", "order"] [(.int 1), (.int 6), (.tup [(.int 2)]), (.str "first")]), .own (.obj "Rule" ["gap", "window", "let", "order"] [(.int 1), (.int 6), (.tup []), (.str "first")]), x9, x10], []⟩) := by kernel_rfl
theorem p6_2 {scr k bx : T} {x9 x10 : Sl} : lg6 ⟨[.val scr, .val k, .own bx, .val (.int 2), .val (.obj "Measure" ["most", "span"] [(.int 1), (.int 2)]), .val (.obj "Week" ["days", "matches"] [(.int 3), (.tup [(.tup [(.int 0), (.str "ann"), (.str "bob")])])]), .val (.obj "Rule" ["gap", "window", "let", "order"] [(.int 1), (.int 6), (.tup [(.int 1), (.int 2)]), (.str "first")]), .val (.obj "Rule" ["gap", "window", "let", "order"] [(.int 1), (.int 6), (.tup [(.int 2)]), (.str "first")]), .own (.obj "Rule" ["gap", "window", "let", "order"] [(.int 1), (.int 6), (.tup []), (.str "first")]), x9, x10], []⟩ = some (.nx ⟨[.val scr, .val k, .own bx, .val (.int 2), .val (.obj "Measure" ["most", "span"] [(.int 1), (.int 2)]), .val (.obj "Week" ["days", "matches"] [(.int 3), (.tup [(.tup [(.int 0), (.str "ann"), (.str "bob")])])]), .val (.obj "Rule" ["gap", "window", "let", "order"] [(.int 1), (.int 6), (.tup [(.int 1), (.int 2)]), (.str "first")]), .val (.obj "Rule" ["gap", "window", "let", "order"] [(.int 1), (.int 6), (.tup [(.int 2)]), (.str "first")]), .val (.obj "Rule" ["gap", "window", "let", "order"] [(.int 1), (.int 6), (.tup []), (.str "first")]), x9, x10], []⟩) := by kernel_rfl
theorem p7_2 {scr k bx : T} {x9 x10 : Sl} : lg7 ⟨[.val scr, .val k, .own bx, .val (.int 2), .val (.obj "Measure" ["most", "span"] [(.int 1), (.int 2)]), .val (.obj "Week" ["days", "matches"] [(.int 3), (.tup [(.tup [(.int 0), (.str "ann"), (.str "bob")])])]), .val (.obj "Rule" ["gap", "window", "let", "order"] [(.int 1), (.int 6), (.tup [(.int 1), (.int 2)]), (.str "first")]), .val (.obj "Rule" ["gap", "window", "let", "order"] [(.int 1), (.int 6), (.tup [(.int 2)]), (.str "first")]), .val (.obj "Rule" ["gap", "window", "let", "order"] [(.int 1), (.int 6), (.tup []), (.str "first")]), x9, x10], []⟩ = some (.nx ⟨[.val scr, .val k, .own bx, .val (.int 2), .val (.obj "Measure" ["most", "span"] [(.int 1), (.int 2)]), .val (.obj "Week" ["days", "matches"] [(.int 3), (.tup [(.tup [(.int 0), (.str "ann"), (.str "bob")])])]), .val (.obj "Rule" ["gap", "window", "let", "order"] [(.int 1), (.int 6), (.tup [(.int 1), (.int 2)]), (.str "first")]), .val (.obj "Rule" ["gap", "window", "let", "order"] [(.int 1), (.int 6), (.tup [(.int 2)]), (.str "first")]), .val (.obj "Rule" ["gap", "window", "let", "order"] [(.int 1), (.int 6), (.tup []), (.str "first")]), x9, x10], []⟩) := by kernel_rfl
theorem p8_2 {scr k bx : T} {x9 x10 : Sl} : lg8 ⟨[.val scr, .val k, .own bx, .val (.int 2), .val (.obj "Measure" ["most", "span"] [(.int 1), (.int 2)]), .val (.obj "Week" ["days", "matches"] [(.int 3), (.tup [(.tup [(.int 0), (.str "ann"), (.str "bob")])])]), .val (.obj "Rule" ["gap", "window", "let", "order"] [(.int 1), (.int 6), (.tup [(.int 1), (.int 2)]), (.str "first")]), .val (.obj "Rule" ["gap", "window", "let", "order"] [(.int 1), (.int 6), (.tup [(.int 2)]), (.str "first")]), .val (.obj "Rule" ["gap", "window", "let", "order"] [(.int 1), (.int 6), (.tup []), (.str "first")]), x9, x10], []⟩ = some (.nx ⟨[.val scr, .val k, .own bx, .val (.int 2), .val (.obj "Measure" ["most", "span"] [(.int 1), (.int 2)]), .val (.obj "Week" ["days", "matches"] [(.int 3), (.tup [(.tup [(.int 0), (.str "ann"), (.str "bob")])])]), .val (.obj "Rule" ["gap", "window", "let", "order"] [(.int 1), (.int 6), (.tup [(.int 1), (.int 2)]), (.str "first")]), .val (.obj "Rule" ["gap", "window", "let", "order"] [(.int 1), (.int 6), (.tup [(.int 2)]), (.str "first")]), .val (.obj "Rule" ["gap", "window", "let", "order"] [(.int 1), (.int 6), (.tup []), (.str "first")]), x9, x10], []⟩) := by kernel_rfl
theorem p9_2 {scr k bx : T} {x9 x10 : Sl} : lg9 ⟨[.val scr, .val k, .own bx, .val (.int 2), .val (.obj "Measure" ["most", "span"] [(.int 1), (.int 2)]), .val (.obj "Week" ["days", "matches"] [(.int 3), (.tup [(.tup [(.int 0), (.str "ann"), (.str "bob")])])]), .val (.obj "Rule" ["gap", "window", "let", "order"] [(.int 1), (.int 6), (.tup [(.int 1), (.int 2)]), (.str "first")]), .val (.obj "Rule" ["gap", "window", "let", "order"] [(.int 1), (.int 6), (.tup [(.int 2)]), (.str "first")]), .val (.obj "Rule" ["gap", "window", "let", "order"] [(.int 1), (.int 6), (.tup []), (.str "first")]), x9, x10], []⟩ = some (.nx ⟨[.val scr, .val k, .own bx, .val (.int 2), .val (.obj "Measure" ["most", "span"] [(.int 1), (.int 2)]), .val (.obj "Week" ["days", "matches"] [(.int 3), (.tup [(.tup [(.int 0), (.str "ann"), (.str "bob")])])]), .val (.obj "Rule" ["gap", "window", "let", "order"] [(.int 1), (.int 6), (.tup [(.int 1), (.int 2)]), (.str "first")]), .val (.obj "Rule" ["gap", "window", "let", "order"] [(.int 1), (.int 6), (.tup [(.int 2)]), (.str "first")]), .val (.obj "Rule" ["gap", "window", "let", "order"] [(.int 1), (.int 6), (.tup []), (.str "first")]), x9, x10], []⟩) := by kernel_rfl
theorem p10n_2 {scr k bx : T} {x10 : Sl} : lg10 ⟨[.val scr, .val k, .own bx, .val (.int 2), .val (.obj "Measure" ["most", "span"] [(.int 1), (.int 2)]), .val (.obj "Week" ["days", "matches"] [(.int 3), (.tup [(.tup [(.int 0), (.str "ann"), (.str "bob")])])]), .val (.obj "Rule" ["gap", "window", "let", "order"] [(.int 1), (.int 6), (.tup [(.int 1), (.int 2)]), (.str "first")]), .val (.obj "Rule" ["gap", "window", "let", "order"] [(.int 1), (.int 6), (.tup [(.int 2)]), (.str "first")]), .val (.obj "Rule" ["gap", "window", "let", "order"] [(.int 1), (.int 6), (.tup []), (.str "first")]), .no, x10], []⟩ = some (.nx ⟨[.val scr, .val k, .own bx, .val (.int 2), .val (.obj "Measure" ["most", "span"] [(.int 1), (.int 2)]), .val (.obj "Week" ["days", "matches"] [(.int 3), (.tup [(.tup [(.int 0), (.str "ann"), (.str "bob")])])]), .val (.obj "Rule" ["gap", "window", "let", "order"] [(.int 1), (.int 6), (.tup [(.int 1), (.int 2)]), (.str "first")]), .val (.obj "Rule" ["gap", "window", "let", "order"] [(.int 1), (.int 6), (.tup [(.int 2)]), (.str "first")]), .val (.obj "Rule" ["gap", "window", "let", "order"] [(.int 1), (.int 6), (.tup []), (.str "first")]), .own (.obj "Week" ["days", "matches"] [(.int 4), (.tup [(.tup [(.int 0), (.str "ann"), (.str "bob")]), (.tup [(.int 0), (.str "cyd"), (.str "dee")]), (.tup [(.int 2), (.str "ann"), (.str "cyd")])])]), x10], []⟩) := by kernel_rfl
theorem p10v_2 {scr k bx : T} {x10 : Sl} {y9 : T} : lg10 ⟨[.val scr, .val k, .own bx, .val (.int 2), .val (.obj "Measure" ["most", "span"] [(.int 1), (.int 2)]), .val (.obj "Week" ["days", "matches"] [(.int 3), (.tup [(.tup [(.int 0), (.str "ann"), (.str "bob")])])]), .val (.obj "Rule" ["gap", "window", "let", "order"] [(.int 1), (.int 6), (.tup [(.int 1), (.int 2)]), (.str "first")]), .val (.obj "Rule" ["gap", "window", "let", "order"] [(.int 1), (.int 6), (.tup [(.int 2)]), (.str "first")]), .val (.obj "Rule" ["gap", "window", "let", "order"] [(.int 1), (.int 6), (.tup []), (.str "first")]), .val y9, x10], []⟩ = some (.nx ⟨[.val scr, .val k, .own bx, .val (.int 2), .val (.obj "Measure" ["most", "span"] [(.int 1), (.int 2)]), .val (.obj "Week" ["days", "matches"] [(.int 3), (.tup [(.tup [(.int 0), (.str "ann"), (.str "bob")])])]), .val (.obj "Rule" ["gap", "window", "let", "order"] [(.int 1), (.int 6), (.tup [(.int 1), (.int 2)]), (.str "first")]), .val (.obj "Rule" ["gap", "window", "let", "order"] [(.int 1), (.int 6), (.tup [(.int 2)]), (.str "first")]), .val (.obj "Rule" ["gap", "window", "let", "order"] [(.int 1), (.int 6), (.tup []), (.str "first")]), .own (.obj "Week" ["days", "matches"] [(.int 4), (.tup [(.tup [(.int 0), (.str "ann"), (.str "bob")]), (.tup [(.int 0), (.str "cyd"), (.str "dee")]), (.tup [(.int 2), (.str "ann"), (.str "cyd")])])]), x10], []⟩) := by kernel_rfl
theorem p11_2 {scr k bx : T} {x10 : Sl} : lg11 ⟨[.val scr, .val k, .own bx, .val (.int 2), .val (.obj "Measure" ["most", "span"] [(.int 1), (.int 2)]), .val (.obj "Week" ["days", "matches"] [(.int 3), (.tup [(.tup [(.int 0), (.str "ann"), (.str "bob")])])]), .val (.obj "Rule" ["gap", "window", "let", "order"] [(.int 1), (.int 6), (.tup [(.int 1), (.int 2)]), (.str "first")]), .val (.obj "Rule" ["gap", "window", "let", "order"] [(.int 1), (.int 6), (.tup [(.int 2)]), (.str "first")]), .val (.obj "Rule" ["gap", "window", "let", "order"] [(.int 1), (.int 6), (.tup []), (.str "first")]), .own (.obj "Week" ["days", "matches"] [(.int 4), (.tup [(.tup [(.int 0), (.str "ann"), (.str "bob")]), (.tup [(.int 0), (.str "cyd"), (.str "dee")]), (.tup [(.int 2), (.str "ann"), (.str "cyd")])])]), x10], []⟩ = some (.nx ⟨[.val scr, .val k, .own bx, .val (.int 2), .val (.obj "Measure" ["most", "span"] [(.int 1), (.int 2)]), .val (.obj "Week" ["days", "matches"] [(.int 3), (.tup [(.tup [(.int 0), (.str "ann"), (.str "bob")])])]), .val (.obj "Rule" ["gap", "window", "let", "order"] [(.int 1), (.int 6), (.tup [(.int 1), (.int 2)]), (.str "first")]), .val (.obj "Rule" ["gap", "window", "let", "order"] [(.int 1), (.int 6), (.tup [(.int 2)]), (.str "first")]), .val (.obj "Rule" ["gap", "window", "let", "order"] [(.int 1), (.int 6), (.tup []), (.str "first")]), .val (.obj "Week" ["days", "matches"] [(.int 4), (.tup [(.tup [(.int 0), (.str "ann"), (.str "bob")]), (.tup [(.int 0), (.str "cyd"), (.str "dee")]), (.tup [(.int 2), (.str "ann"), (.str "cyd")])])]), x10], []⟩) := q11_2
theorem p12_2 {scr k bx : T} {x10 : Sl} : lg12 ⟨[.val scr, .val k, .own bx, .val (.int 2), .val (.obj "Measure" ["most", "span"] [(.int 1), (.int 2)]), .val (.obj "Week" ["days", "matches"] [(.int 3), (.tup [(.tup [(.int 0), (.str "ann"), (.str "bob")])])]), .val (.obj "Rule" ["gap", "window", "let", "order"] [(.int 1), (.int 6), (.tup [(.int 1), (.int 2)]), (.str "first")]), .val (.obj "Rule" ["gap", "window", "let", "order"] [(.int 1), (.int 6), (.tup [(.int 2)]), (.str "first")]), .val (.obj "Rule" ["gap", "window", "let", "order"] [(.int 1), (.int 6), (.tup []), (.str "first")]), .val (.obj "Week" ["days", "matches"] [(.int 4), (.tup [(.tup [(.int 0), (.str "ann"), (.str "bob")]), (.tup [(.int 0), (.str "cyd"), (.str "dee")]), (.tup [(.int 2), (.str "ann"), (.str "cyd")])])]), x10], []⟩ = some (.nx ⟨[.val scr, .val k, .own bx, .val (.int 2), .val (.obj "Measure" ["most", "span"] [(.int 1), (.int 2)]), .val (.obj "Week" ["days", "matches"] [(.int 3), (.tup [(.tup [(.int 0), (.str "ann"), (.str "bob")])])]), .val (.obj "Rule" ["gap", "window", "let", "order"] [(.int 1), (.int 6), (.tup [(.int 1), (.int 2)]), (.str "first")]), .val (.obj "Rule" ["gap", "window", "let", "order"] [(.int 1), (.int 6), (.tup [(.int 2)]), (.str "first")]), .val (.obj "Rule" ["gap", "window", "let", "order"] [(.int 1), (.int 6), (.tup []), (.str "first")]), .val (.obj "Week" ["days", "matches"] [(.int 4), (.tup [(.tup [(.int 0), (.str "ann"), (.str "bob")]), (.tup [(.int 0), (.str "cyd"), (.str "dee")]), (.tup [(.int 2), (.str "ann"), (.str "cyd")])])]), x10], []⟩) := by kernel_rfl
theorem p13n_2 {scr k bx : T} : lg13 ⟨[.val scr, .val k, .own bx, .val (.int 2), .val (.obj "Measure" ["most", "span"] [(.int 1), (.int 2)]), .val (.obj "Week" ["days", "matches"] [(.int 3), (.tup [(.tup [(.int 0), (.str "ann"), (.str "bob")])])]), .val (.obj "Rule" ["gap", "window", "let", "order"] [(.int 1), (.int 6), (.tup [(.int 1), (.int 2)]), (.str "first")]), .val (.obj "Rule" ["gap", "window", "let", "order"] [(.int 1), (.int 6), (.tup [(.int 2)]), (.str "first")]), .val (.obj "Rule" ["gap", "window", "let", "order"] [(.int 1), (.int 6), (.tup []), (.str "first")]), .val (.obj "Week" ["days", "matches"] [(.int 4), (.tup [(.tup [(.int 0), (.str "ann"), (.str "bob")]), (.tup [(.int 0), (.str "cyd"), (.str "dee")]), (.tup [(.int 2), (.str "ann"), (.str "cyd")])])]), .no], []⟩ = some (.nx ⟨[.val scr, .val k, .own bx, .val (.int 2), .val (.obj "Measure" ["most", "span"] [(.int 1), (.int 2)]), .val (.obj "Week" ["days", "matches"] [(.int 3), (.tup [(.tup [(.int 0), (.str "ann"), (.str "bob")])])]), .val (.obj "Rule" ["gap", "window", "let", "order"] [(.int 1), (.int 6), (.tup [(.int 1), (.int 2)]), (.str "first")]), .val (.obj "Rule" ["gap", "window", "let", "order"] [(.int 1), (.int 6), (.tup [(.int 2)]), (.str "first")]), .val (.obj "Rule" ["gap", "window", "let", "order"] [(.int 1), (.int 6), (.tup []), (.str "first")]), .val (.obj "Week" ["days", "matches"] [(.int 4), (.tup [(.tup [(.int 0), (.str "ann"), (.str "bob")]), (.tup [(.int 0), (.str "cyd"), (.str "dee")]), (.tup [(.int 2), (.str "ann"), (.str "cyd")])])]), .own (.obj "Week" ["days", "matches"] [(.int 5), (.tup [(.tup [(.int 0), (.str "ann"), (.str "bob")]), (.tup [(.int 1), (.str "ann"), (.str "cyd")]), (.tup [(.int 2), (.str "cyd"), (.str "dee")])])])], []⟩) := by kernel_rfl
theorem p13v_2 {scr k bx : T} {y10 : T} : lg13 ⟨[.val scr, .val k, .own bx, .val (.int 2), .val (.obj "Measure" ["most", "span"] [(.int 1), (.int 2)]), .val (.obj "Week" ["days", "matches"] [(.int 3), (.tup [(.tup [(.int 0), (.str "ann"), (.str "bob")])])]), .val (.obj "Rule" ["gap", "window", "let", "order"] [(.int 1), (.int 6), (.tup [(.int 1), (.int 2)]), (.str "first")]), .val (.obj "Rule" ["gap", "window", "let", "order"] [(.int 1), (.int 6), (.tup [(.int 2)]), (.str "first")]), .val (.obj "Rule" ["gap", "window", "let", "order"] [(.int 1), (.int 6), (.tup []), (.str "first")]), .val (.obj "Week" ["days", "matches"] [(.int 4), (.tup [(.tup [(.int 0), (.str "ann"), (.str "bob")]), (.tup [(.int 0), (.str "cyd"), (.str "dee")]), (.tup [(.int 2), (.str "ann"), (.str "cyd")])])]), .val y10], []⟩ = some (.nx ⟨[.val scr, .val k, .own bx, .val (.int 2), .val (.obj "Measure" ["most", "span"] [(.int 1), (.int 2)]), .val (.obj "Week" ["days", "matches"] [(.int 3), (.tup [(.tup [(.int 0), (.str "ann"), (.str "bob")])])]), .val (.obj "Rule" ["gap", "window", "let", "order"] [(.int 1), (.int 6), (.tup [(.int 1), (.int 2)]), (.str "first")]), .val (.obj "Rule" ["gap", "window", "let", "order"] [(.int 1), (.int 6), (.tup [(.int 2)]), (.str "first")]), .val (.obj "Rule" ["gap", "window", "let", "order"] [(.int 1), (.int 6), (.tup []), (.str "first")]), .val (.obj "Week" ["days", "matches"] [(.int 4), (.tup [(.tup [(.int 0), (.str "ann"), (.str "bob")]), (.tup [(.int 0), (.str "cyd"), (.str "dee")]), (.tup [(.int 2), (.str "ann"), (.str "cyd")])])]), .own (.obj "Week" ["days", "matches"] [(.int 5), (.tup [(.tup [(.int 0), (.str "ann"), (.str "bob")]), (.tup [(.int 1), (.str "ann"), (.str "cyd")]), (.tup [(.int 2), (.str "cyd"), (.str "dee")])])])], []⟩) := by kernel_rfl
end L37
set_option Elab.async false
set_option linter.all false
set_option maxRecDepth 100000
set_option maxHeartbeats 4000000
namespace L37
open PySem PySem.Spec PyProof.Rows L2 Rw Fn LamX
theorem p2n_3 {scr k bx : T} {x6 x7 x8 x9 x10 : Sl} : lg2 ⟨[.val scr, .val k, .own bx, .val (.int 3), .no, .no, x6, x7, x8, x9, x10], []⟩ = some (.nx ⟨[.val scr, .val k, .own bx, .val (.int 3), .own (.obj "Measure" ["most", "span"] [(.int 1), (.int 3)]), .own (.obj "Week" ["days", "matches"] [(.int 3), (.tup [(.tup [(.int 0), (.str "ann"), (.str "bob")])])]), x6, x7, x8, x9, x10], []⟩) := by kernel_rfl
theorem p2v_3 {scr k bx : T} {x6 x7 x8 x9 x10 : Sl} {y4 y5 : T} : lg2 ⟨[.val scr, .val k, .own bx, .val (.int 3), .val y4, .val y5, x6, x7, x8, x9, x10], []⟩ = some (.nx ⟨[.val scr, .val k, .own bx, .val (.int 3), .own (.obj "Measure" ["most", "span"] [(.int 1), (.int 3)]), .own (.obj "Week" ["days", "matches"] [(.int 3), (.tup [(.tup [(.int 0), (.str "ann"), (.str "bob")])])]), x6, x7, x8, x9, x10], []⟩) := by kernel_rfl
theorem p3n_3 {scr k bx : T} {x9 x10 : Sl} : lg3 ⟨[.val scr, .val k, .own bx, .val (.int 3), .own (.obj "Measure" ["most", "span"] [(.int 1), (.int 3)]), .own (.obj "Week" ["days", "matches"] [(.int 3), (.tup [(.tup [(.int 0), (.str "ann"), (.str "bob")])])]), .no, .no, .no, x9, x10], []⟩ = some (.nx ⟨[.val scr, .val k, .own bx, .val (.int 3), .own (.obj "Measure" ["most", "span"] [(.int 1), (.int 3)]), .own (.obj "Week" ["days", "matches"] [(.int 3), (.tup [(.tup [(.int 0), (.str "ann"), (.str "bob")])])]), .own (.obj "Rule" ["gap", "window", "let", "order"] [(.int 1), (.int 6), (.tup [(.int 1), (.int 2)]), (.str "first")]), .own (.obj "Rule" ["gap", "window", "let", "order"] [(.int 1), (.int 6), (.tup [(.int 2)]), (.str "first")]), .own (.obj "Rule" ["gap", "window", "let", "order"] [(.int 1), (.int 6), (.tup []), (.str "first")]), x9, x10], []⟩) := by kernel_rfl
theorem p3v_3 {scr k bx : T} {x9 x10 : Sl} {y6 y7 y8 : T} : lg3 ⟨[.val scr, .val k, .own bx, .val (.int 3), .own (.obj "Measure" ["most", "span"] [(.int 1), (.int 3)]), .own (.obj "Week" ["days", "matches"] [(.int 3), (.tup [(.tup [(.int 0), (.str "ann"), (.str "bob")])])]), .val y6, .val y7, .val y8, x9, x10], []⟩ = some (.nx ⟨[.val scr, .val k, .own bx, .val (.int 3), .own (.obj "Measure" ["most", "span"] [(.int 1), (.int 3)]), .own (.obj "Week" ["days", "matches"] [(.int 3), (.tup [(.tup [(.int 0), (.str "ann"), (.str "bob")])])]), .own (.obj "Rule" ["gap", "window", "let", "order"] [(.int 1), (.int 6), (.tup [(.int 1), (.int 2)]), (.str "first")]), .own (.obj "Rule" ["gap", "window", "let", "order"] [(.int 1), (.int 6), (.tup [(.int 2)]), (.str "first")]), .own (.obj "Rule" ["gap", "window", "let", "order"] [(.int 1), (.int 6), (.tup []), (.str "first")]), x9, x10], []⟩) := by kernel_rfl
theorem p4_3 {scr k bx : T} {x9 x10 : Sl} : lg4 ⟨[.val scr, .val k, .own bx, .val (.int 3), .own (.obj "Measure" ["most", "span"] [(.int 1), (.int 3)]), .own (.obj "Week" ["days", "matches"] [(.int 3), (.tup [(.tup [(.int 0), (.str "ann"), (.str "bob")])])]), .own (.obj "Rule" ["gap", "window", "let", "order"] [(.int 1), (.int 6), (.tup [(.int 1), (.int 2)]), (.str "first")]), .own (.obj "Rule" ["gap", "window", "let", "order"] [(.int 1), (.int 6), (.tup [(.int 2)]), (.str "first")]), .own (.obj "Rule" ["gap", "window", "let", "order"] [(.int 1), (.int 6), (.tup []), (.str "first")]), x9, x10], []⟩ = some (.nx ⟨[.val scr, .val k, .own bx, .val (.int 3), .val (.obj "Measure" ["most", "span"] [(.int 1), (.int 3)]), .val (.obj "Week" ["days", "matches"] [(.int 3), (.tup [(.tup [(.int 0), (.str "ann"), (.str "bob")])])]), .val (.obj "Rule" ["gap", "window", "let", "order"] [(.int 1), (.int 6), (.tup [(.int 1), (.int 2)]), (.str "first")]), .val (.obj "Rule" ["gap", "window", "let", "order"] [(.int 1), (.int 6), (.tup [(.int 2)]), (.str "first")]), .own (.obj "Rule" ["gap", "window", "let", "order"] [(.int 1), (.int 6), (.tup []), (.str "first")]), x9, x10], []⟩) := by kernel_rfl
theorem p5_3 {scr k bx : T} {x9 x10 : Sl} : lg5 ⟨[.val scr, .val k, .own bx, .val (.int 3), .val (.obj "Measure" ["most", "span"] [(.int 1), (.int 3)]), .val (.obj "Week" ["days", "matches"] [(.int 3), (.tup [(.tup [(.int 0), (.str "ann"), (.str "bob")])])]), .val (.obj "Rule" ["gap", "window", "let", "order"] [(.int 1), (.int 6), (.tup [(.int 1), (.int 2)]), (.str "first")]), .val (.obj "Rule" ["gap", "window", "let", "order"] [(.int 1), (.int 6), (.tup [(.int 2)]), (.str "first")]), .own (.obj "Rule" ["gap", "window", "let", "order"] [(.int 1), (.int 6), (.tup []), (.str "first")]), x9, x10], []⟩ = some (.nx ⟨[.val scr, .val k, .own bx, .val (.int 3), .val (.obj "Measure" ["most", "span"] [(.int 1), (.int 3)]), .val (.obj "Week" ["days", "matches"] [(.int 3), (.tup [(.tup [(.int 0), (.str "ann"), (.str "bob")])])]), .val (.obj "Rule" ["gap", "window", "let", "order"] [(.int 1), (.int 6), (.tup [(.int 1), (.int 2)]), (.str "first")]), .val (.obj "Rule" ["gap", "window", "let", "order"] [(.int 1), (.int 6), (.tup [(.int 2)]), (.str "first")]), .own (.obj "Rule" ["gap", "window", "let", "order"] [(.int 1), (.int 6), (.tup []), (.str "first")]), x9, x10], []⟩) := by kernel_rfl
theorem p6_3 {scr k bx : T} {x9 x10 : Sl} : lg6 ⟨[.val scr, .val k, .own bx, .val (.int 3), .val (.obj "Measure" ["most", "span"] [(.int 1), (.int 3)]), .val (.obj "Week" ["days", "matches"] [(.int 3), (.tup [(.tup [(.int 0), (.str "ann"), (.str "bob")])])]), .val (.obj "Rule" ["gap", "window", "let", "order"] [(.int 1), (.int 6), (.tup [(.int 1), (.int 2)]), (.str "first")]), .val (.obj "Rule" ["gap", "window", "let", "order"] [(.int 1), (.int 6), (.tup [(.int 2)]), (.str "first")]), .own (.obj "Rule" ["gap", "window", "let", "order"] [(.int 1), (.int 6), (.tup []), (.str "first")]), x9, x10], []⟩ = some (.nx ⟨[.val scr, .val k, .own bx, .val (.int 3), .val (.obj "Measure" ["most", "span"] [(.int 1), (.int 3)]), .val (.obj "Week" ["days", "matches"] [(.int 3), (.tup [(.tup [(.int 0), (.str "ann"), (.str "bob")])])]), .val (.obj "Rule" ["gap", "window", "let", "order"] [(.int 1), (.int 6), (.tup [(.int 1), (.int 2)]), (.str "first")]), .val (.obj "Rule" ["gap", "window", "let", "order"] [(.int 1), (.int 6), (.tup [(.int 2)]), (.str "first")]), .val (.obj "Rule" ["gap", "window", "let", "order"] [(.int 1), (.int 6), (.tup []), (.str "first")]), x9, x10], []⟩) := by kernel_rfl
theorem p7_3 {scr k bx : T} {x9 x10 : Sl} : lg7 ⟨[.val scr, .val k, .own bx, .val (.int 3), .val (.obj "Measure" ["most", "span"] [(.int 1), (.int 3)]), .val (.obj "Week" ["days", "matches"] [(.int 3), (.tup [(.tup [(.int 0), (.str "ann"), (.str "bob")])])]), .val (.obj "Rule" ["gap", "window", "let", "order"] [(.int 1), (.int 6), (.tup [(.int 1), (.int 2)]), (.str "first")]), .val (.obj "Rule" ["gap", "window", "let", "order"] [(.int 1), (.int 6), (.tup [(.int 2)]), (.str "first")]), .val (.obj "Rule" ["gap", "window", "let", "order"] [(.int 1), (.int 6), (.tup []), (.str "first")]), x9, x10], []⟩ = some (.nx ⟨[.val scr, .val k, .own bx, .val (.int 3), .val (.obj "Measure" ["most", "span"] [(.int 1), (.int 3)]), .val (.obj "Week" ["days", "matches"] [(.int 3), (.tup [(.tup [(.int 0), (.str "ann"), (.str "bob")])])]), .val (.obj "Rule" ["gap", "window", "let", "order"] [(.int 1), (.int 6), (.tup [(.int 1), (.int 2)]), (.str "first")]), .val (.obj "Rule" ["gap", "window", "let", "order"] [(.int 1), (.int 6), (.tup [(.int 2)]), (.str "first")]), .val (.obj "Rule" ["gap", "window", "let", "order"] [(.int 1), (.int 6), (.tup []), (.str "first")]), x9, x10], []⟩) := by kernel_rfl
theorem p8_3 {scr k bx : T} {x9 x10 : Sl} : lg8 ⟨[.val scr, .val k, .own bx, .val (.int 3), .val (.obj "Measure" ["most", "span"] [(.int 1), (.int 3)]), .val (.obj "Week" ["days", "matches"] [(.int 3), (.tup [(.tup [(.int 0), (.str "ann"), (.str "bob")])])]), .val (.obj "Rule" ["gap", "window", "let", "order"] [(.int 1), (.int 6), (.tup [(.int 1), (.int 2)]), (.str "first")]), .val (.obj "Rule" ["gap", "window", "let", "order"] [(.int 1), (.int 6), (.tup [(.int 2)]), (.str "first")]), .val (.obj "Rule" ["gap", "window", "let", "order"] [(.int 1), (.int 6), (.tup []), (.str "first")]), x9, x10], []⟩ = some (.nx ⟨[.val scr, .val k, .own bx, .val (.int 3), .val (.obj "Measure" ["most", "span"] [(.int 1), (.int 3)]), .val (.obj "Week" ["days", "matches"] [(.int 3), (.tup [(.tup [(.int 0), (.str "ann"), (.str "bob")])])]), .val (.obj "Rule" ["gap", "window", "let", "order"] [(.int 1), (.int 6), (.tup [(.int 1), (.int 2)]), (.str "first")]), .val (.obj "Rule" ["gap", "window", "let", "order"] [(.int 1), (.int 6), (.tup [(.int 2)]), (.str "first")]), .val (.obj "Rule" ["gap", "window", "let", "order"] [(.int 1), (.int 6), (.tup []), (.str "first")]), x9, x10], []⟩) := by kernel_rfl
theorem p9_3 {scr k bx : T} {x9 x10 : Sl} : lg9 ⟨[.val scr, .val k, .own bx, .val (.int 3), .val (.obj "Measure" ["most", "span"] [(.int 1), (.int 3)]), .val (.obj "Week" ["days", "matches"] [(.int 3), (.tup [(.tup [(.int 0), (.str "ann"), (.str "bob")])])]), .val (.obj "Rule" ["gap", "window", "let", "order"] [(.int 1), (.int 6), (.tup [(.int 1), (.int 2)]), (.str "first")]), .val (.obj "Rule" ["gap", "window", "let", "order"] [(.int 1), (.int 6), (.tup [(.int 2)]), (.str "first")]), .val (.obj "Rule" ["gap", "window", "let", "order"] [(.int 1), (.int 6), (.tup []), (.str "first")]), x9, x10], []⟩ = some (.nx ⟨[.val scr, .val k, .own bx, .val (.int 3), .val (.obj "Measure" ["most", "span"] [(.int 1), (.int 3)]), .val (.obj "Week" ["days", "matches"] [(.int 3), (.tup [(.tup [(.int 0), (.str "ann"), (.str "bob")])])]), .val (.obj "Rule" ["gap", "window", "let", "order"] [(.int 1), (.int 6), (.tup [(.int 1), (.int 2)]), (.str "first")]), .val (.obj "Rule" ["gap", "window", "let", "order"] [(.int 1), (.int 6), (.tup [(.int 2)]), (.str "first")]), .val (.obj "Rule" ["gap", "window", "let", "order"] [(.int 1), (.int 6), (.tup []), (.str "first")]), x9, x10], []⟩) := by kernel_rfl
theorem p10n_3 {scr k bx : T} {x10 : Sl} : lg10 ⟨[.val scr, .val k, .own bx, .val (.int 3), .val (.obj "Measure" ["most", "span"] [(.int 1), (.int 3)]), .val (.obj "Week" ["days", "matches"] [(.int 3), (.tup [(.tup [(.int 0), (.str "ann"), (.str "bob")])])]), .val (.obj "Rule" ["gap", "window", "let", "order"] [(.int 1), (.int 6), (.tup [(.int 1), (.int 2)]), (.str "first")]), .val (.obj "Rule" ["gap", "window", "let", "order"] [(.int 1), (.int 6), (.tup [(.int 2)]), (.str "first")]), .val (.obj "Rule" ["gap", "window", "let", "order"] [(.int 1), (.int 6), (.tup []), (.str "first")]), .no, x10], []⟩ = some (.nx ⟨[.val scr, .val k, .own bx, .val (.int 3), .val (.obj "Measure" ["most", "span"] [(.int 1), (.int 3)]), .val (.obj "Week" ["days", "matches"] [(.int 3), (.tup [(.tup [(.int 0), (.str "ann"), (.str "bob")])])]), .val (.obj "Rule" ["gap", "window", "let", "order"] [(.int 1), (.int 6), (.tup [(.int 1), (.int 2)]), (.str "first")]), .val (.obj "Rule" ["gap", "window", "let", "order"] [(.int 1), (.int 6), (.tup [(.int 2)]), (.str "first")]), .val (.obj "Rule" ["gap", "window", "let", "order"] [(.int 1), (.int 6), (.tup []), (.str "first")]), .own (.obj "Week" ["days", "matches"] [(.int 4), (.tup [(.tup [(.int 0), (.str "ann"), (.str "bob")]), (.tup [(.int 0), (.str "cyd"), (.str "dee")]), (.tup [(.int 2), (.str "ann"), (.str "cyd")])])]), x10], []⟩) := by kernel_rfl
theorem p10v_3 {scr k bx : T} {x10 : Sl} {y9 : T} : lg10 ⟨[.val scr, .val k, .own bx, .val (.int 3), .val (.obj "Measure" ["most", "span"] [(.int 1), (.int 3)]), .val (.obj "Week" ["days", "matches"] [(.int 3), (.tup [(.tup [(.int 0), (.str "ann"), (.str "bob")])])]), .val (.obj "Rule" ["gap", "window", "let", "order"] [(.int 1), (.int 6), (.tup [(.int 1), (.int 2)]), (.str "first")]), .val (.obj "Rule" ["gap", "window", "let", "order"] [(.int 1), (.int 6), (.tup [(.int 2)]), (.str "first")]), .val (.obj "Rule" ["gap", "window", "let", "order"] [(.int 1), (.int 6), (.tup []), (.str "first")]), .val y9, x10], []⟩ = some (.nx ⟨[.val scr, .val k, .own bx, .val (.int 3), .val (.obj "Measure" ["most", "span"] [(.int 1), (.int 3)]), .val (.obj "Week" ["days", "matches"] [(.int 3), (.tup [(.tup [(.int 0), (.str "ann"), (.str "bob")])])]), .val (.obj "Rule" ["gap", "window", "let", "order"] [(.int 1), (.int 6), (.tup [(.int 1), (.int 2)]), (.str "first")]), .val (.obj "Rule" ["gap", "window", "let", "order"] [(.int 1), (.int 6), (.tup [(.int 2)]), (.str "first")]), .val (.obj "Rule" ["gap", "window", "let", "order"] [(.int 1), (.int 6), (.tup []), (.str "first")]), .own (.obj "Week" ["days", "matches"] [(.int 4), (.tup [(.tup [(.int 0), (.str "ann"), (.str "bob")]), (.tup [(.int 0), (.str "cyd"), (.str "dee")]), (.tup [(.int 2), (.str "ann"), (.str "cyd")])])]), x10], []⟩) := by kernel_rfl
theorem p11_3 {scr k bx : T} {x10 : Sl} : lg11 ⟨[.val scr, .val k, .own bx, .val (.int 3), .val (.obj "Measure" ["most", "span"] [(.int 1), (.int 3)]), .val (.obj "Week" ["days", "matches"] [(.int 3), (.tup [(.tup [(.int 0), (.str "ann"), (.str "bob")])])]), .val (.obj "Rule" ["gap", "window", "let", "order"] [(.int 1), (.int 6), (.tup [(.int 1), (.int 2)]), (.str "first")]), .val (.obj "Rule" ["gap", "window", "let", "order"] [(.int 1), (.int 6), (.tup [(.int 2)]), (.str "first")]), .val (.obj "Rule" ["gap", "window", "let", "order"] [(.int 1), (.int 6), (.tup []), (.str "first")]), .own (.obj "Week" ["days", "matches"] [(.int 4), (.tup [(.tup [(.int 0), (.str "ann"), (.str "bob")]), (.tup [(.int 0), (.str "cyd"), (.str "dee")]), (.tup [(.int 2), (.str "ann"), (.str "cyd")])])]), x10], []⟩ = some (.nx ⟨[.val scr, .val k, .own bx, .val (.int 3), .val (.obj "Measure" ["most", "span"] [(.int 1), (.int 3)]), .val (.obj "Week" ["days", "matches"] [(.int 3), (.tup [(.tup [(.int 0), (.str "ann"), (.str "bob")])])]), .val (.obj "Rule" ["gap", "window", "let", "order"] [(.int 1), (.int 6), (.tup [(.int 1), (.int 2)]), (.str "first")]), .val (.obj "Rule" ["gap", "window", "let", "order"] [(.int 1), (.int 6), (.tup [(.int 2)]), (.str "first")]), .val (.obj "Rule" ["gap", "window", "let", "order"] [(.int 1), (.int 6), (.tup []), (.str "first")]), .val (.obj "Week" ["days", "matches"] [(.int 4), (.tup [(.tup [(.int 0), (.str "ann"), (.str "bob")]), (.tup [(.int 0), (.str "cyd"), (.str "dee")]), (.tup [(.int 2), (.str "ann"), (.str "cyd")])])]), x10], []⟩) := q11_3
theorem p12_3 {scr k bx : T} {x10 : Sl} : lg12 ⟨[.val scr, .val k, .own bx, .val (.int 3), .val (.obj "Measure" ["most", "span"] [(.int 1), (.int 3)]), .val (.obj "Week" ["days", "matches"] [(.int 3), (.tup [(.tup [(.int 0), (.str "ann"), (.str "bob")])])]), .val (.obj "Rule" ["gap", "window", "let", "order"] [(.int 1), (.int 6), (.tup [(.int 1), (.int 2)]), (.str "first")]), .val (.obj "Rule" ["gap", "window", "let", "order"] [(.int 1), (.int 6), (.tup [(.int 2)]), (.str "first")]), .val (.obj "Rule" ["gap", "window", "let", "order"] [(.int 1), (.int 6), (.tup []), (.str "first")]), .val (.obj "Week" ["days", "matches"] [(.int 4), (.tup [(.tup [(.int 0), (.str "ann"), (.str "bob")]), (.tup [(.int 0), (.str "cyd"), (.str "dee")]), (.tup [(.int 2), (.str "ann"), (.str "cyd")])])]), x10], []⟩ = some (.nx ⟨[.val scr, .val k, .own bx, .val (.int 3), .val (.obj "Measure" ["most", "span"] [(.int 1), (.int 3)]), .val (.obj "Week" ["days", "matches"] [(.int 3), (.tup [(.tup [(.int 0), (.str "ann"), (.str "bob")])])]), .val (.obj "Rule" ["gap", "window", "let", "order"] [(.int 1), (.int 6), (.tup [(.int 1), (.int 2)]), (.str "first")]), .val (.obj "Rule" ["gap", "window", "let", "order"] [(.int 1), (.int 6), (.tup [(.int 2)]), (.str "first")]), .val (.obj "Rule" ["gap", "window", "let", "order"] [(.int 1), (.int 6), (.tup []), (.str "first")]), .val (.obj "Week" ["days", "matches"] [(.int 4), (.tup [(.tup [(.int 0), (.str "ann"), (.str "bob")]), (.tup [(.int 0), (.str "cyd"), (.str "dee")]), (.tup [(.int 2), (.str "ann"), (.str "cyd")])])]), x10], []⟩) := by kernel_rfl
theorem p13n_3 {scr k bx : T} : lg13 ⟨[.val scr, .val k, .own bx, .val (.int 3), .val (.obj "Measure" ["most", "span"] [(.int 1), (.int 3)]), .val (.obj "Week" ["days", "matches"] [(.int 3), (.tup [(.tup [(.int 0), (.str "ann"), (.str "bob")])])]), .val (.obj "Rule" ["gap", "window", "let", "order"] [(.int 1), (.int 6), (.tup [(.int 1), (.int 2)]), (.str "first")]), .val (.obj "Rule" ["gap", "window", "let", "order"] [(.int 1), (.int 6), (.tup [(.int 2)]), (.str "first")]), .val (.obj "Rule" ["gap", "window", "let", "order"] [(.int 1), (.int 6), (.tup []), (.str "first")]), .val (.obj "Week" ["days", "matches"] [(.int 4), (.tup [(.tup [(.int 0), (.str "ann"), (.str "bob")]), (.tup [(.int 0), (.str "cyd"), (.str "dee")]), (.tup [(.int 2), (.str "ann"), (.str "cyd")])])]), .no], []⟩ = some (.nx ⟨[.val scr, .val k, .own bx, .val (.int 3), .val (.obj "Measure" ["most", "span"] [(.int 1), (.int 3)]), .val (.obj "Week" ["days", "matches"] [(.int 3), (.tup [(.tup [(.int 0), (.str "ann"), (.str "bob")])])]), .val (.obj "Rule" ["gap", "window", "let", "order"] [(.int 1), (.int 6), (.tup [(.int 1), (.int 2)]), (.str "first")]), .val (.obj "Rule" ["gap", "window", "let", "order"] [(.int 1), (.int 6), (.tup [(.int 2)]), (.str "first")]), .val (.obj "Rule" ["gap", "window", "let", "order"] [(.int 1), (.int 6), (.tup []), (.str "first")]), .val (.obj "Week" ["days", "matches"] [(.int 4), (.tup [(.tup [(.int 0), (.str "ann"), (.str "bob")]), (.tup [(.int 0), (.str "cyd"), (.str "dee")]), (.tup [(.int 2), (.str "ann"), (.str "cyd")])])]), .own (.obj "Week" ["days", "matches"] [(.int 5), (.tup [(.tup [(.int 0), (.str "ann"), (.str "bob")]), (.tup [(.int 1), (.str "ann"), (.str "cyd")]), (.tup [(.int 2), (.str "cyd"), (.str "dee")])])])], []⟩) := by kernel_rfl
theorem p13v_3 {scr k bx : T} {y10 : T} : lg13 ⟨[.val scr, .val k, .own bx, .val (.int 3), .val (.obj "Measure" ["most", "span"] [(.int 1), (.int 3)]), .val (.obj "Week" ["days", "matches"] [(.int 3), (.tup [(.tup [(.int 0), (.str "ann"), (.str "bob")])])]), .val (.obj "Rule" ["gap", "window", "let", "order"] [(.int 1), (.int 6), (.tup [(.int 1), (.int 2)]), (.str "first")]), .val (.obj "Rule" ["gap", "window", "let", "order"] [(.int 1), (.int 6), (.tup [(.int 2)]), (.str "first")]), .val (.obj "Rule" ["gap", "window", "let", "order"] [(.int 1), (.int 6), (.tup []), (.str "first")]), .val (.obj "Week" ["days", "matches"] [(.int 4), (.tup [(.tup [(.int 0), (.str "ann"), (.str "bob")]), (.tup [(.int 0), (.str "cyd"), (.str "dee")]), (.tup [(.int 2), (.str "ann"), (.str "cyd")])])]), .val y10], []⟩ = some (.nx ⟨[.val scr, .val k, .own bx, .val (.int 3), .val (.obj "Measure" ["most", "span"] [(.int 1), (.int 3)]), .val (.obj "Week" ["days", "matches"] [(.int 3), (.tup [(.tup [(.int 0), (.str "ann"), (.str "bob")])])]), .val (.obj "Rule" ["gap", "window", "let", "order"] [(.int 1), (.int 6), (.tup [(.int 1), (.int 2)]), (.str "first")]), .val (.obj "Rule" ["gap", "window", "let", "order"] [(.int 1), (.int 6), (.tup [(.int 2)]), (.str "first")]), .val (.obj "Rule" ["gap", "window", "let", "order"] [(.int 1), (.int 6), (.tup []), (.str "first")]), .val (.obj "Week" ["days", "matches"] [(.int 4), (.tup [(.tup [(.int 0), (.str "ann"), (.str "bob")]), (.tup [(.int 0), (.str "cyd"), (.str "dee")]), (.tup [(.int 2), (.str "ann"), (.str "cyd")])])]), .own (.obj "Week" ["days", "matches"] [(.int 5), (.tup [(.tup [(.int 0), (.str "ann"), (.str "bob")]), (.tup [(.int 1), (.str "ann"), (.str "cyd")]), (.tup [(.int 2), (.str "cyd"), (.str "dee")])])])], []⟩) := by kernel_rfl
end L37
set_option Elab.async false
set_option linter.all false
set_option maxRecDepth 100000
set_option maxHeartbeats 4000000
namespace L37
open PySem PySem.Spec PyProof.Rows L2 Rw Fn LamX
theorem p2n_4 {scr k bx : T} {x6 x7 x8 x9 x10 : Sl} : lg2 ⟨[.val scr, .val k, .own bx, .val (.int 4), .no, .no, x6, x7, x8, x9, x10], []⟩ = some (.nx ⟨[.val scr, .val k, .own bx, .val (.int 4), .own (.obj "Measure" ["most", "span"] [(.int 1), (.int 4)]), .own (.obj "Week" ["days", "matches"] [(.int 3), (.tup [(.tup [(.int 0), (.str "ann"), (.str "bob")])])]), x6, x7, x8, x9, x10], []⟩) := by kernel_rfl
theorem p2v_4 {scr k bx : T} {x6 x7 x8 x9 x10 : Sl} {y4 y5 : T} : lg2 ⟨[.val scr, .val k, .own bx, .val (.int 4), .val y4, .val y5, x6, x7, x8, x9, x10], []⟩ = some (.nx ⟨[.val scr, .val k, .own bx, .val (.int 4), .own (.obj "Measure" ["most", "span"] [(.int 1), (.int 4)]), .own (.obj "Week" ["days", "matches"] [(.int 3), (.tup [(.tup [(.int 0), (.str "ann"), (.str "bob")])])]), x6, x7, x8, x9, x10], []⟩) := by kernel_rfl
theorem p3n_4 {scr k bx : T} {x9 x10 : Sl} : lg3 ⟨[.val scr, .val k, .own bx, .val (.int 4), .own (.obj "Measure" ["most", "span"] [(.int 1), (.int 4)]), .own (.obj "Week" ["days", "matches"] [(.int 3), (.tup [(.tup [(.int 0), (.str "ann"), (.str "bob")])])]), .no, .no, .no, x9, x10], []⟩ = some (.nx ⟨[.val scr, .val k, .own bx, .val (.int 4), .own (.obj "Measure" ["most", "span"] [(.int 1), (.int 4)]), .own (.obj "Week" ["days", "matches"] [(.int 3), (.tup [(.tup [(.int 0), (.str "ann"), (.str "bob")])])]), .own (.obj "Rule" ["gap", "window", "let", "order"] [(.int 1), (.int 6), (.tup [(.int 1), (.int 2)]), (.str "first")]), .own (.obj "Rule" ["gap", "window", "let", "order"] [(.int 1), (.int 6), (.tup [(.int 2)]), (.str "first")]), .own (.obj "Rule" ["gap", "window", "let", "order"] [(.int 1), (.int 6), (.tup []), (.str "first")]), x9, x10], []⟩) := by kernel_rfl
theorem p3v_4 {scr k bx : T} {x9 x10 : Sl} {y6 y7 y8 : T} : lg3 ⟨[.val scr, .val k, .own bx, .val (.int 4), .own (.obj "Measure" ["most", "span"] [(.int 1), (.int 4)]), .own (.obj "Week" ["days", "matches"] [(.int 3), (.tup [(.tup [(.int 0), (.str "ann"), (.str "bob")])])]), .val y6, .val y7, .val y8, x9, x10], []⟩ = some (.nx ⟨[.val scr, .val k, .own bx, .val (.int 4), .own (.obj "Measure" ["most", "span"] [(.int 1), (.int 4)]), .own (.obj "Week" ["days", "matches"] [(.int 3), (.tup [(.tup [(.int 0), (.str "ann"), (.str "bob")])])]), .own (.obj "Rule" ["gap", "window", "let", "order"] [(.int 1), (.int 6), (.tup [(.int 1), (.int 2)]), (.str "first")]), .own (.obj "Rule" ["gap", "window", "let", "order"] [(.int 1), (.int 6), (.tup [(.int 2)]), (.str "first")]), .own (.obj "Rule" ["gap", "window", "let", "order"] [(.int 1), (.int 6), (.tup []), (.str "first")]), x9, x10], []⟩) := by kernel_rfl
theorem p4_4 {scr k bx : T} {x9 x10 : Sl} : lg4 ⟨[.val scr, .val k, .own bx, .val (.int 4), .own (.obj "Measure" ["most", "span"] [(.int 1), (.int 4)]), .own (.obj "Week" ["days", "matches"] [(.int 3), (.tup [(.tup [(.int 0), (.str "ann"), (.str "bob")])])]), .own (.obj "Rule" ["gap", "window", "let", "order"] [(.int 1), (.int 6), (.tup [(.int 1), (.int 2)]), (.str "first")]), .own (.obj "Rule" ["gap", "window", "let", "order"] [(.int 1), (.int 6), (.tup [(.int 2)]), (.str "first")]), .own (.obj "Rule" ["gap", "window", "let", "order"] [(.int 1), (.int 6), (.tup []), (.str "first")]), x9, x10], []⟩ = some (.nx ⟨[.val scr, .val k, .own bx, .val (.int 4), .val (.obj "Measure" ["most", "span"] [(.int 1), (.int 4)]), .val (.obj "Week" ["days", "matches"] [(.int 3), (.tup [(.tup [(.int 0), (.str "ann"), (.str "bob")])])]), .val (.obj "Rule" ["gap", "window", "let", "order"] [(.int 1), (.int 6), (.tup [(.int 1), (.int 2)]), (.str "first")]), .val (.obj "Rule" ["gap", "window", "let", "order"] [(.int 1), (.int 6), (.tup [(.int 2)]), (.str "first")]), .own (.obj "Rule" ["gap", "window", "let", "order"] [(.int 1), (.int 6), (.tup []), (.str "first")]), x9, x10], []⟩) := by kernel_rfl
theorem p5_4 {scr k bx : T} {x9 x10 : Sl} : lg5 ⟨[.val scr, .val k, .own bx, .val (.int 4), .val (.obj "Measure" ["most", "span"] [(.int 1), (.int 4)]), .val (.obj "Week" ["days", "matches"] [(.int 3), (.tup [(.tup [(.int 0), (.str "ann"), (.str "bob")])])]), .val (.obj "Rule" ["gap", "window", "let", "order"] [(.int 1), (.int 6), (.tup [(.int 1), (.int 2)]), (.str "first")]), .val (.obj "Rule" ["gap", "window", "let", "order"] [(.int 1), (.int 6), (.tup [(.int 2)]), (.str "first")]), .own (.obj "Rule" ["gap", "window", "let", "order"] [(.int 1), (.int 6), (.tup []), (.str "first")]), x9, x10], []⟩ = some (.nx ⟨[.val scr, .val k, .own bx, .val (.int 4), .val (.obj "Measure" ["most", "span"] [(.int 1), (.int 4)]), .val (.obj "Week" ["days", "matches"] [(.int 3), (.tup [(.tup [(.int 0), (.str "ann"), (.str "bob")])])]), .val (.obj "Rule" ["gap", "window", "let", "order"] [(.int 1), (.int 6), (.tup [(.int 1), (.int 2)]), (.str "first")]), .val (.obj "Rule" ["gap", "window", "let", "order"] [(.int 1), (.int 6), (.tup [(.int 2)]), (.str "first")]), .own (.obj "Rule" ["gap", "window", "let", "order"] [(.int 1), (.int 6), (.tup []), (.str "first")]), x9, x10], []⟩) := by kernel_rfl
theorem p6_4 {scr k bx : T} {x9 x10 : Sl} : lg6 ⟨[.val scr, .val k, .own bx, .val (.int 4), .val (.obj "Measure" ["most", "span"] [(.int 1), (.int 4)]), .val (.obj "Week" ["days", "matches"] [(.int 3), (.tup [(.tup [(.int 0), (.str "ann"), (.str "bob")])])]), .val (.obj "Rule" ["gap", "window", "let", "order"] [(.int 1), (.int 6), (.tup [(.int 1), (.int 2)]), (.str "first")]), .val (.obj "Rule" ["gap", "window", "let", "order"] [(.int 1), (.int 6), (.tup [(.int 2)]), (.str "first")]), .own (.obj "Rule" ["gap", "window", "let", "order"] [(.int 1), (.int 6), (.tup []), (.str "first")]), x9, x10], []⟩ = some (.nx ⟨[.val scr, .val k, .own bx, .val (.int 4), .val (.obj "Measure" ["most", "span"] [(.int 1), (.int 4)]), .val (.obj "Week" ["days", "matches"] [(.int 3), (.tup [(.tup [(.int 0), (.str "ann"), (.str "bob")])])]), .val (.obj "Rule" ["gap", "window", "let", "order"] [(.int 1), (.int 6), (.tup [(.int 1), (.int 2)]), (.str "first")]), .val (.obj "Rule" ["gap", "window", "let", "order"] [(.int 1), (.int 6), (.tup [(.int 2)]), (.str "first")]), .val (.obj "Rule" ["gap", "window", "let", "order"] [(.int 1), (.int 6), (.tup []), (.str "first")]), x9, x10], []⟩) := by kernel_rfl
theorem p7_4 {scr k bx : T} {x9 x10 : Sl} : lg7 ⟨[.val scr, .val k, .own bx, .val (.int 4), .val (.obj "Measure" ["most", "span"] [(.int 1), (.int 4)]), .val (.obj "Week" ["days", "matches"] [(.int 3), (.tup [(.tup [(.int 0), (.str "ann"), (.str "bob")])])]), .val (.obj "Rule" ["gap", "window", "let", "order"] [(.int 1), (.int 6), (.tup [(.int 1), (.int 2)]), (.str "first")]), .val (.obj "Rule" ["gap", "window", "let", "order"] [(.int 1), (.int 6), (.tup [(.int 2)]), (.str "first")]), .val (.obj "Rule" ["gap", "window", "let", "order"] [(.int 1), (.int 6), (.tup []), (.str "first")]), x9, x10], []⟩ = some (.nx ⟨[.val scr, .val k, .own bx, .val (.int 4), .val (.obj "Measure" ["most", "span"] [(.int 1), (.int 4)]), .val (.obj "Week" ["days", "matches"] [(.int 3), (.tup [(.tup [(.int 0), (.str "ann"), (.str "bob")])])]), .val (.obj "Rule" ["gap", "window", "let", "order"] [(.int 1), (.int 6), (.tup [(.int 1), (.int 2)]), (.str "first")]), .val (.obj "Rule" ["gap", "window", "let", "order"] [(.int 1), (.int 6), (.tup [(.int 2)]), (.str "first")]), .val (.obj "Rule" ["gap", "window", "let", "order"] [(.int 1), (.int 6), (.tup []), (.str "first")]), x9, x10], []⟩) := by kernel_rfl
theorem p8_4 {scr k bx : T} {x9 x10 : Sl} : lg8 ⟨[.val scr, .val k, .own bx, .val (.int 4), .val (.obj "Measure" ["most", "span"] [(.int 1), (.int 4)]), .val (.obj "Week" ["days", "matches"] [(.int 3), (.tup [(.tup [(.int 0), (.str "ann"), (.str "bob")])])]), .val (.obj "Rule" ["gap", "window", "let", "order"] [(.int 1), (.int 6), (.tup [(.int 1), (.int 2)]), (.str "first")]), .val (.obj "Rule" ["gap", "window", "let", "order"] [(.int 1), (.int 6), (.tup [(.int 2)]), (.str "first")]), .val (.obj "Rule" ["gap", "window", "let", "order"] [(.int 1), (.int 6), (.tup []), (.str "first")]), x9, x10], []⟩ = some (.nx ⟨[.val scr, .val k, .own bx, .val (.int 4), .val (.obj "Measure" ["most", "span"] [(.int 1), (.int 4)]), .val (.obj "Week" ["days", "matches"] [(.int 3), (.tup [(.tup [(.int 0), (.str "ann"), (.str "bob")])])]), .val (.obj "Rule" ["gap", "window", "let", "order"] [(.int 1), (.int 6), (.tup [(.int 1), (.int 2)]), (.str "first")]), .val (.obj "Rule" ["gap", "window", "let", "order"] [(.int 1), (.int 6), (.tup [(.int 2)]), (.str "first")]), .val (.obj "Rule" ["gap", "window", "let", "order"] [(.int 1), (.int 6), (.tup []), (.str "first")]), x9, x10], []⟩) := by kernel_rfl
theorem p9_4 {scr k bx : T} {x9 x10 : Sl} : lg9 ⟨[.val scr, .val k, .own bx, .val (.int 4), .val (.obj "Measure" ["most", "span"] [(.int 1), (.int 4)]), .val (.obj "Week" ["days", "matches"] [(.int 3), (.tup [(.tup [(.int 0), (.str "ann"), (.str "bob")])])]), .val (.obj "Rule" ["gap", "window", "let", "order"] [(.int 1), (.int 6), (.tup [(.int 1), (.int 2)]), (.str "first")]), .val (.obj "Rule" ["gap", "window", "let", "order"] [(.int 1), (.int 6), (.tup [(.int 2)]), (.str "first")]), .val (.obj "Rule" ["gap", "window", "let", "order"] [(.int 1), (.int 6), (.tup []), (.str "first")]), x9, x10], []⟩ = some (.nx ⟨[.val scr, .val k, .own bx, .val (.int 4), .val (.obj "Measure" ["most", "span"] [(.int 1), (.int 4)]), .val (.obj "Week" ["days", "matches"] [(.int 3), (.tup [(.tup [(.int 0), (.str "ann"), (.str "bob")])])]), .val (.obj "Rule" ["gap", "window", "let", "order"] [(.int 1), (.int 6), (.tup [(.int 1), (.int 2)]), (.str "first")]), .val (.obj "Rule" ["gap", "window", "let", "order"] [(.int 1), (.int 6), (.tup [(.int 2)]), (.str "first")]), .val (.obj "Rule" ["gap", "window", "let", "order"] [(.int 1), (.int 6), (.tup []), (.str "first")]), x9, x10], []⟩) := by kernel_rfl
theorem p10n_4 {scr k bx : T} {x10 : Sl} : lg10 ⟨[.val scr, .val k, .own bx, .val (.int 4), .val (.obj "Measure" ["most", "span"] [(.int 1), (.int 4)]), .val (.obj "Week" ["days", "matches"] [(.int 3), (.tup [(.tup [(.int 0), (.str "ann"), (.str "bob")])])]), .val (.obj "Rule" ["gap", "window", "let", "order"] [(.int 1), (.int 6), (.tup [(.int 1), (.int 2)]), (.str "first")]), .val (.obj "Rule" ["gap", "window", "let", "order"] [(.int 1), (.int 6), (.tup [(.int 2)]), (.str "first")]), .val (.obj "Rule" ["gap", "window", "let", "order"] [(.int 1), (.int 6), (.tup []), (.str "first")]), .no, x10], []⟩ = some (.nx ⟨[.val scr, .val k, .own bx, .val (.int 4), .val (.obj "Measure" ["most", "span"] [(.int 1), (.int 4)]), .val (.obj "Week" ["days", "matches"] [(.int 3), (.tup [(.tup [(.int 0), (.str "ann"), (.str "bob")])])]), .val (.obj "Rule" ["gap", "window", "let", "order"] [(.int 1), (.int 6), (.tup [(.int 1), (.int 2)]), (.str "first")]), .val (.obj "Rule" ["gap", "window", "let", "order"] [(.int 1), (.int 6), (.tup [(.int 2)]), (.str "first")]), .val (.obj "Rule" ["gap", "window", "let", "order"] [(.int 1), (.int 6), (.tup []), (.str "first")]), .own (.obj "Week" ["days", "matches"] [(.int 4), (.tup [(.tup [(.int 0), (.str "ann"), (.str "bob")]), (.tup [(.int 0), (.str "cyd"), (.str "dee")]), (.tup [(.int 2), (.str "ann"), (.str "cyd")])])]), x10], []⟩) := by kernel_rfl
theorem p10v_4 {scr k bx : T} {x10 : Sl} {y9 : T} : lg10 ⟨[.val scr, .val k, .own bx, .val (.int 4), .val (.obj "Measure" ["most", "span"] [(.int 1), (.int 4)]), .val (.obj "Week" ["days", "matches"] [(.int 3), (.tup [(.tup [(.int 0), (.str "ann"), (.str "bob")])])]), .val (.obj "Rule" ["gap", "window", "let", "order"] [(.int 1), (.int 6), (.tup [(.int 1), (.int 2)]), (.str "first")]), .val (.obj "Rule" ["gap", "window", "let", "order"] [(.int 1), (.int 6), (.tup [(.int 2)]), (.str "first")]), .val (.obj "Rule" ["gap", "window", "let", "order"] [(.int 1), (.int 6), (.tup []), (.str "first")]), .val y9, x10], []⟩ = some (.nx ⟨[.val scr, .val k, .own bx, .val (.int 4), .val (.obj "Measure" ["most", "span"] [(.int 1), (.int 4)]), .val (.obj "Week" ["days", "matches"] [(.int 3), (.tup [(.tup [(.int 0), (.str "ann"), (.str "bob")])])]), .val (.obj "Rule" ["gap", "window", "let", "order"] [(.int 1), (.int 6), (.tup [(.int 1), (.int 2)]), (.str "first")]), .val (.obj "Rule" ["gap", "window", "let", "order"] [(.int 1), (.int 6), (.tup [(.int 2)]), (.str "first")]), .val (.obj "Rule" ["gap", "window", "let", "order"] [(.int 1), (.int 6), (.tup []), (.str "first")]), .own (.obj "Week" ["days", "matches"] [(.int 4), (.tup [(.tup [(.int 0), (.str "ann"), (.str "bob")]), (.tup [(.int 0), (.str "cyd"), (.str "dee")]), (.tup [(.int 2), (.str "ann"), (.str "cyd")])])]), x10], []⟩) := by kernel_rfl
theorem p11_4 {scr k bx : T} {x10 : Sl} : lg11 ⟨[.val scr, .val k, .own bx, .val (.int 4), .val (.obj "Measure" ["most", "span"] [(.int 1), (.int 4)]), .val (.obj "Week" ["days", "matches"] [(.int 3), (.tup [(.tup [(.int 0), (.str "ann"), (.str "bob")])])]), .val (.obj "Rule" ["gap", "window", "let", "order"] [(.int 1), (.int 6), (.tup [(.int 1), (.int 2)]), (.str "first")]), .val (.obj "Rule" ["gap", "window", "let", "order"] [(.int 1), (.int 6), (.tup [(.int 2)]), (.str "first")]), .val (.obj "Rule" ["gap", "window", "let", "order"] [(.int 1), (.int 6), (.tup []), (.str "first")]), .own (.obj "Week" ["days", "matches"] [(.int 4), (.tup [(.tup [(.int 0), (.str "ann"), (.str "bob")]), (.tup [(.int 0), (.str "cyd"), (.str "dee")]), (.tup [(.int 2), (.str "ann"), (.str "cyd")])])]), x10], []⟩ = some (.nx ⟨[.val scr, .val k, .own bx, .val (.int 4), .val (.obj "Measure" ["most", "span"] [(.int 1), (.int 4)]), .val (.obj "Week" ["days", "matches"] [(.int 3), (.tup [(.tup [(.int 0), (.str "ann"), (.str "bob")])])]), .val (.obj "Rule" ["gap", "window", "let", "order"] [(.int 1), (.int 6), (.tup [(.int 1), (.int 2)]), (.str "first")]), .val (.obj "Rule" ["gap", "window", "let", "order"] [(.int 1), (.int 6), (.tup [(.int 2)]), (.str "first")]), .val (.obj "Rule" ["gap", "window", "let", "order"] [(.int 1), (.int 6), (.tup []), (.str "first")]), .val (.obj "Week" ["days", "matches"] [(.int 4), (.tup [(.tup [(.int 0), (.str "ann"), (.str "bob")]), (.tup [(.int 0), (.str "cyd"), (.str "dee")]), (.tup [(.int 2), (.str "ann"), (.str "cyd")])])]), x10], []⟩) := q11_4
theorem p12_4 {scr k bx : T} {x10 : Sl} : lg12 ⟨[.val scr, .val k, .own bx, .val (.int 4), .val (.obj "Measure" ["most", "span"] [(.int 1), (.int 4)]), .val (.obj "Week" ["days", "matches"] [(.int 3), (.tup [(.tup [(.int 0), (.str "ann"), (.str "bob")])])]), .val (.obj "Rule" ["gap", "window", "let", "order"] [(.int 1), (.int 6), (.tup [(.int 1), (.int 2)]), (.str "first")]), .val (.obj "Rule" ["gap", "window", "let", "order"] [(.int 1), (.int 6), (.tup [(.int 2)]), (.str "first")]), .val (.obj "Rule" ["gap", "window", "let", "order"] [(.int 1), (.int 6), (.tup []), (.str "first")]), .val (.obj "Week" ["days", "matches"] [(.int 4), (.tup [(.tup [(.int 0), (.str "ann"), (.str "bob")]), (.tup [(.int 0), (.str "cyd"), (.str "dee")]), (.tup [(.int 2), (.str "ann"), (.str "cyd")])])]), x10], []⟩ = some (.nx ⟨[.val scr, .val k, .own bx, .val (.int 4), .val (.obj "Measure" ["most", "span"] [(.int 1), (.int 4)]), .val (.obj "Week" ["days", "matches"] [(.int 3), (.tup [(.tup [(.int 0), (.str "ann"), (.str "bob")])])]), .val (.obj "Rule" ["gap", "window", "let", "order"] [(.int 1), (.int 6), (.tup [(.int 1), (.int 2)]), (.str "first")]), .val (.obj "Rule" ["gap", "window", "let", "order"] [(.int 1), (.int 6), (.tup [(.int 2)]), (.str "first")]), .val (.obj "Rule" ["gap", "window", "let", "order"] [(.int 1), (.int 6), (.tup []), (.str "first")]), .val (.obj "Week" ["days", "matches"] [(.int 4), (.tup [(.tup [(.int 0), (.str "ann"), (.str "bob")]), (.tup [(.int 0), (.str "cyd"), (.str "dee")]), (.tup [(.int 2), (.str "ann"), (.str "cyd")])])]), x10], []⟩) := by kernel_rfl
theorem p13n_4 {scr k bx : T} : lg13 ⟨[.val scr, .val k, .own bx, .val (.int 4), .val (.obj "Measure" ["most", "span"] [(.int 1), (.int 4)]), .val (.obj "Week" ["days", "matches"] [(.int 3), (.tup [(.tup [(.int 0), (.str "ann"), (.str "bob")])])]), .val (.obj "Rule" ["gap", "window", "let", "order"] [(.int 1), (.int 6), (.tup [(.int 1), (.int 2)]), (.str "first")]), .val (.obj "Rule" ["gap", "window", "let", "order"] [(.int 1), (.int 6), (.tup [(.int 2)]), (.str "first")]), .val (.obj "Rule" ["gap", "window", "let", "order"] [(.int 1), (.int 6), (.tup []), (.str "first")]), .val (.obj "Week" ["days", "matches"] [(.int 4), (.tup [(.tup [(.int 0), (.str "ann"), (.str "bob")]), (.tup [(.int 0), (.str "cyd"), (.str "dee")]), (.tup [(.int 2), (.str "ann"), (.str "cyd")])])]), .no], []⟩ = some (.nx ⟨[.val scr, .val k, .own bx, .val (.int 4), .val (.obj "Measure" ["most", "span"] [(.int 1), (.int 4)]), .val (.obj "Week" ["days", "matches"] [(.int 3), (.tup [(.tup [(.int 0), (.str "ann"), (.str "bob")])])]), .val (.obj "Rule" ["gap", "window", "let", "order"] [(.int 1), (.int 6), (.tup [(.int 1), (.int 2)]), (.str "first")]), .val (.obj "Rule" ["gap", "window", "let", "order"] [(.int 1), (.int 6), (.tup [(.int 2)]), (.str "first")]), .val (.obj "Rule" ["gap", "window", "let", "order"] [(.int 1), (.int 6), (.tup []), (.str "first")]), .val (.obj "Week" ["days", "matches"] [(.int 4), (.tup [(.tup [(.int 0), (.str "ann"), (.str "bob")]), (.tup [(.int 0), (.str "cyd"), (.str "dee")]), (.tup [(.int 2), (.str "ann"), (.str "cyd")])])]), .own (.obj "Week" ["days", "matches"] [(.int 5), (.tup [(.tup [(.int 0), (.str "ann"), (.str "bob")]), (.tup [(.int 1), (.str "ann"), (.str "cyd")]), (.tup [(.int 2), (.str "cyd"), (.str "dee")])])])], []⟩) := by kernel_rfl
theorem p13v_4 {scr k bx : T} {y10 : T} : lg13 ⟨[.val scr, .val k, .own bx, .val (.int 4), .val (.obj "Measure" ["most", "span"] [(.int 1), (.int 4)]), .val (.obj "Week" ["days", "matches"] [(.int 3), (.tup [(.tup [(.int 0), (.str "ann"), (.str "bob")])])]), .val (.obj "Rule" ["gap", "window", "let", "order"] [(.int 1), (.int 6), (.tup [(.int 1), (.int 2)]), (.str "first")]), .val (.obj "Rule" ["gap", "window", "let", "order"] [(.int 1), (.int 6), (.tup [(.int 2)]), (.str "first")]), .val (.obj "Rule" ["gap", "window", "let", "order"] [(.int 1), (.int 6), (.tup []), (.str "first")]), .val (.obj "Week" ["days", "matches"] [(.int 4), (.tup [(.tup [(.int 0), (.str "ann"), (.str "bob")]), (.tup [(.int 0), (.str "cyd"), (.str "dee")]), (.tup [(.int 2), (.str "ann"), (.str "cyd")])])]), .val y10], []⟩ = some (.nx ⟨[.val scr, .val k, .own bx, .val (.int 4), .val (.obj "Measure" ["most", "span"] [(.int 1), (.int 4)]), .val (.obj "Week" ["days", "matches"] [(.int 3), (.tup [(.tup [(.int 0), (.str "ann"), (.str "bob")])])]), .val (.obj "Rule" ["gap", "window", "let", "order"] [(.int 1), (.int 6), (.tup [(.int 1), (.int 2)]), (.str "first")]), .val (.obj "Rule" ["gap", "window", "let", "order"] [(.int 1), (.int 6), (.tup [(.int 2)]), (.str "first")]), .val (.obj "Rule" ["gap", "window", "let", "order"] [(.int 1), (.int 6), (.tup []), (.str "first")]), .val (.obj "Week" ["days", "matches"] [(.int 4), (.tup [(.tup [(.int 0), (.str "ann"), (.str "bob")]), (.tup [(.int 0), (.str "cyd"), (.str "dee")]), (.tup [(.int 2), (.str "ann"), (.str "cyd")])])]), .own (.obj "Week" ["days", "matches"] [(.int 5), (.tup [(.tup [(.int 0), (.str "ann"), (.str "bob")]), (.tup [(.int 1), (.str "ann"), (.str "cyd")]), (.tup [(.int 2), (.str "cyd"), (.str "dee")])])])], []⟩) := by kernel_rfl
end L37
set_option Elab.async false
set_option linter.all false
set_option maxRecDepth 100000
set_option maxHeartbeats 4000000
namespace L37
open PySem PySem.Spec PyProof.Rows L2 Rw Fn LamX

def Wok (W : List Sl) : Prop := W = [.no, .no, .no, .no, .no, .no, .no] ∨ ∃ a b c d e f g : T, W = [.val a, .val b, .val c, .val d, .val e, .val f, .val g]
def lgT : SF := (sSeq lg2 (sSeq lg3 (sSeq lg4 (sSeq lg5 (sSeq lg6 (sSeq lg7 (sSeq lg8 (sSeq lg9 (sSeq lg10 (sSeq lg11 (sSeq lg12 (sSeq lg13 (sSeq lg14 lg15)))))))))))))
theorem body_eq : lgBody = sSeq lg0 (sSeq lg1 lgT) := rfl
theorem turn_2 {scr k bx : T} {W : List Sl} (h : Wok W) : ∃ W2, Wok W2 ∧ lgT ⟨[.val scr, .val k, .own bx, .val (.int 2)] ++ W, []⟩ = some (.nx ⟨[.val scr, .val k, .own bx, .val (.int 2)] ++ W2, []⟩) := by
  refine ⟨[.val (.obj "Measure" ["most", "span"] [(.int 1), (.int 2)]), .val (.obj "Week" ["days", "matches"] [(.int 3), (.tup [(.tup [(.int 0), (.str "ann"), (.str "bob")])])]), .val (.obj "Rule" ["gap", "window", "let", "order"] [(.int 1), (.int 6), (.tup [(.int 1), (.int 2)]), (.str "first")]), .val (.obj "Rule" ["gap", "window", "let", "order"] [(.int 1), (.int 6), (.tup [(.int 2)]), (.str "first")]), .val (.obj "Rule" ["gap", "window", "let", "order"] [(.int 1), (.int 6), (.tup []), (.str "first")]), .val (.obj "Week" ["days", "matches"] [(.int 4), (.tup [(.tup [(.int 0), (.str "ann"), (.str "bob")]), (.tup [(.int 0), (.str "cyd"), (.str "dee")]), (.tup [(.int 2), (.str "ann"), (.str "cyd")])])]), .val lateT], .inr ⟨_, _, _, _, _, _, _, rfl⟩, ?_⟩
  rcases h with rfl | ⟨a, b, c, d, e, f, g, rfl⟩
  · exact (sSeq_nx p2n_2).trans ((sSeq_nx p3n_2).trans ((sSeq_nx p4_2).trans ((sSeq_nx p5_2).trans ((sSeq_nx p6_2).trans ((sSeq_nx p7_2).trans ((sSeq_nx p8_2).trans ((sSeq_nx p9_2).trans ((sSeq_nx p10n_2).trans ((sSeq_nx p11_2).trans ((sSeq_nx p12_2).trans ((sSeq_nx p13n_2).trans ((sSeq_nx l14).trans l15))))))))))))
  · exact (sSeq_nx p2v_2).trans ((sSeq_nx p3v_2).trans ((sSeq_nx p4_2).trans ((sSeq_nx p5_2).trans ((sSeq_nx p6_2).trans ((sSeq_nx p7_2).trans ((sSeq_nx p8_2).trans ((sSeq_nx p9_2).trans ((sSeq_nx p10v_2).trans ((sSeq_nx p11_2).trans ((sSeq_nx p12_2).trans ((sSeq_nx p13v_2).trans ((sSeq_nx l14).trans l15))))))))))))
theorem turn_3 {scr k bx : T} {W : List Sl} (h : Wok W) : ∃ W2, Wok W2 ∧ lgT ⟨[.val scr, .val k, .own bx, .val (.int 3)] ++ W, []⟩ = some (.nx ⟨[.val scr, .val k, .own bx, .val (.int 3)] ++ W2, []⟩) := by
  refine ⟨[.val (.obj "Measure" ["most", "span"] [(.int 1), (.int 3)]), .val (.obj "Week" ["days", "matches"] [(.int 3), (.tup [(.tup [(.int 0), (.str "ann"), (.str "bob")])])]), .val (.obj "Rule" ["gap", "window", "let", "order"] [(.int 1), (.int 6), (.tup [(.int 1), (.int 2)]), (.str "first")]), .val (.obj "Rule" ["gap", "window", "let", "order"] [(.int 1), (.int 6), (.tup [(.int 2)]), (.str "first")]), .val (.obj "Rule" ["gap", "window", "let", "order"] [(.int 1), (.int 6), (.tup []), (.str "first")]), .val (.obj "Week" ["days", "matches"] [(.int 4), (.tup [(.tup [(.int 0), (.str "ann"), (.str "bob")]), (.tup [(.int 0), (.str "cyd"), (.str "dee")]), (.tup [(.int 2), (.str "ann"), (.str "cyd")])])]), .val lateT], .inr ⟨_, _, _, _, _, _, _, rfl⟩, ?_⟩
  rcases h with rfl | ⟨a, b, c, d, e, f, g, rfl⟩
  · exact (sSeq_nx p2n_3).trans ((sSeq_nx p3n_3).trans ((sSeq_nx p4_3).trans ((sSeq_nx p5_3).trans ((sSeq_nx p6_3).trans ((sSeq_nx p7_3).trans ((sSeq_nx p8_3).trans ((sSeq_nx p9_3).trans ((sSeq_nx p10n_3).trans ((sSeq_nx p11_3).trans ((sSeq_nx p12_3).trans ((sSeq_nx p13n_3).trans ((sSeq_nx l14).trans l15))))))))))))
  · exact (sSeq_nx p2v_3).trans ((sSeq_nx p3v_3).trans ((sSeq_nx p4_3).trans ((sSeq_nx p5_3).trans ((sSeq_nx p6_3).trans ((sSeq_nx p7_3).trans ((sSeq_nx p8_3).trans ((sSeq_nx p9_3).trans ((sSeq_nx p10v_3).trans ((sSeq_nx p11_3).trans ((sSeq_nx p12_3).trans ((sSeq_nx p13v_3).trans ((sSeq_nx l14).trans l15))))))))))))
theorem turn_4 {scr k bx : T} {W : List Sl} (h : Wok W) : ∃ W2, Wok W2 ∧ lgT ⟨[.val scr, .val k, .own bx, .val (.int 4)] ++ W, []⟩ = some (.nx ⟨[.val scr, .val k, .own bx, .val (.int 4)] ++ W2, []⟩) := by
  refine ⟨[.val (.obj "Measure" ["most", "span"] [(.int 1), (.int 4)]), .val (.obj "Week" ["days", "matches"] [(.int 3), (.tup [(.tup [(.int 0), (.str "ann"), (.str "bob")])])]), .val (.obj "Rule" ["gap", "window", "let", "order"] [(.int 1), (.int 6), (.tup [(.int 1), (.int 2)]), (.str "first")]), .val (.obj "Rule" ["gap", "window", "let", "order"] [(.int 1), (.int 6), (.tup [(.int 2)]), (.str "first")]), .val (.obj "Rule" ["gap", "window", "let", "order"] [(.int 1), (.int 6), (.tup []), (.str "first")]), .val (.obj "Week" ["days", "matches"] [(.int 4), (.tup [(.tup [(.int 0), (.str "ann"), (.str "bob")]), (.tup [(.int 0), (.str "cyd"), (.str "dee")]), (.tup [(.int 2), (.str "ann"), (.str "cyd")])])]), .val lateT], .inr ⟨_, _, _, _, _, _, _, rfl⟩, ?_⟩
  rcases h with rfl | ⟨a, b, c, d, e, f, g, rfl⟩
  · exact (sSeq_nx p2n_4).trans ((sSeq_nx p3n_4).trans ((sSeq_nx p4_4).trans ((sSeq_nx p5_4).trans ((sSeq_nx p6_4).trans ((sSeq_nx p7_4).trans ((sSeq_nx p8_4).trans ((sSeq_nx p9_4).trans ((sSeq_nx p10n_4).trans ((sSeq_nx p11_4).trans ((sSeq_nx p12_4).trans ((sSeq_nx p13n_4).trans ((sSeq_nx l14).trans l15))))))))))))
  · exact (sSeq_nx p2v_4).trans ((sSeq_nx p3v_4).trans ((sSeq_nx p4_4).trans ((sSeq_nx p5_4).trans ((sSeq_nx p6_4).trans ((sSeq_nx p7_4).trans ((sSeq_nx p8_4).trans ((sSeq_nx p9_4).trans ((sSeq_nx p10v_4).trans ((sSeq_nx p11_4).trans ((sSeq_nx p12_4).trans ((sSeq_nx p13v_4).trans ((sSeq_nx l14).trans l15))))))))))))
theorem lg0_ok {b : Bool} {ns : List Int} {k : Int} (h0 : 0 ≤ k) {s2 s3 : Sl} (hs : s2 = .no ∨ ∃ t, s2 = .own t) {W : List Sl} : ∃ x y, lg0 ⟨[.val (scrT b ns), .val (.int k), s2, s3] ++ W, []⟩ = some (.nx ⟨[.val (scrT b ns), .val (.int k), .own (.lst [.int x, .int y, .int 0]), s3] ++ W, []⟩) := by
  obtain ⟨x, y, h⟩ := box_ok b ns k h0
  refine ⟨x, y, ?_⟩
  unfold lg0
  rcases hs with rfl | ⟨t, rfl⟩
  · simp [sPut, put, put1, nz, noAli, fCall, callK, lend, toArg, fFrz, frz1, f2, f0, fV, fC, fz, pp, ixN, Sl.tree, Sl.own?, h, okOut, isRes, back, bk, Fn.pb, tl1]
  · simp [sPut, put, put1, nz, noAli, fCall, callK, lend, toArg, fFrz, frz1, f2, f0, fV, fC, fz, pp, ixN, Sl.tree, Sl.own?, h, okOut, isRes, back, bk, Fn.pb, tl1]
theorem lg1_ok {scr k : T} {x y : Int} {s3 : Sl} (hs : s3 = .no ∨ ∃ t, s3 = .val t) {W : List Sl} : ∃ bx s, (s = 2 ∨ s = 3 ∨ s = 4) ∧ lg1 ⟨[.val scr, .val k, .own (.lst [.int x, .int y, .int 0]), s3] ++ W, []⟩ = some (.nx ⟨[.val scr, .val k, .own bx, .val (.int s)] ++ W, []⟩) := by
  obtain ⟨a', b', c', r, h, r0, r1⟩ := take_ok x y 0 3 (by omega) (by omega)
  refine ⟨.lst [.int a', .int b', .int c'], 2 + r, by omega, ?_⟩
  unfold lg1
  rcases hs with rfl | ⟨t, rfl⟩
  · simp [sPut, put, put1, nz, noAli, fCall, callK, lend, toArg, fB, o2, oAdd, f2, f0, fV, fC, fz, pp, Sl.tree, Sl.own?, h, okOut, isRes, back, bk, tl1]
  · simp [sPut, put, put1, nz, noAli, fCall, callK, lend, toArg, fB, o2, oAdd, f2, f0, fV, fC, fz, pp, Sl.tree, Sl.own?, h, okOut, isRes, back, bk, tl1]
theorem body_ok {b : Bool} {ns : List Int} {k : Int} {s2 s3 : Sl} {W : List Sl} (h0 : 0 ≤ k) (h2 : s2 = .no ∨ ∃ t, s2 = .own t) (h3 : s3 = .no ∨ ∃ t, s3 = .val t) (hW : Wok W) : ∃ bx s W2, Wok W2 ∧ lgBody ⟨[.val (scrT b ns), .val (.int k), s2, s3] ++ W, []⟩ = some (.nx ⟨[.val (scrT b ns), .val (.int k), .own bx, .val (.int s)] ++ W2, []⟩) := by
  obtain ⟨x, y, e1⟩ := lg0_ok (b := b) (ns := ns) h0 (s3 := s3) h2 (W := W)
  obtain ⟨bx, s, hs, e2⟩ := lg1_ok (scr := scrT b ns) (k := .int k) (x := x) (y := y) h3 (W := W)
  rcases hs with rfl | rfl | rfl
  · obtain ⟨W2, hW2, e3⟩ := turn_2 (scr := scrT b ns) (k := .int k) (bx := bx) hW
    exact ⟨bx, _, W2, hW2, by rw [body_eq, sSeq_nx e1, sSeq_nx e2]; exact e3⟩
  · obtain ⟨W2, hW2, e3⟩ := turn_3 (scr := scrT b ns) (k := .int k) (bx := bx) hW
    exact ⟨bx, _, W2, hW2, by rw [body_eq, sSeq_nx e1, sSeq_nx e2]; exact e3⟩
  · obtain ⟨W2, hW2, e3⟩ := turn_4 (scr := scrT b ns) (k := .int k) (bx := bx) hW
    exact ⟨bx, _, W2, hW2, by rw [body_eq, sSeq_nx e1, sSeq_nx e2]; exact e3⟩
def z0 (b : Bool) (ns : List Int) : Z := ⟨[.val (scrT b ns), .no, .no, .no, .no, .no, .no, .no, .no, .no, .no], []⟩
theorem outer_ok {b : Bool} {ns : List Int} {j : Int} (hR : lgR (z0 b ns) = some (z0 b ns, scK (Fn.rangeT 0 j))) : ∃ s1 s2 s3 W, Wok W ∧ sFor lgR 0 (put 1) lgBody (z0 b ns) = some (.nx ⟨[.val (scrT b ns), s1, s2, s3] ++ W, []⟩) := by
  obtain ⟨z', h1, s1, s2, s3, W, hW, g1, g2, g3, rfl⟩ := sFor_inv (m := 0) (g := put 1) (s := lgBody) (ts := Fn.rangeT 0 j) (fun i z => ∃ s1 s2 s3 W, Wok W ∧ (s1 = .no ∨ ∃ t, s1 = .val t) ∧ (s2 = .no ∨ ∃ t, s2 = .own t) ∧ (s3 = .no ∨ ∃ t, s3 = .val t) ∧ z = ⟨[.val (scrT b ns), s1, s2, s3] ++ W, []⟩) hR (fun i z _ => Eq.refl _) ⟨.no, .no, .no, _, .inl rfl, .inl rfl, .inl rfl, .inl rfl, rfl⟩ (by
    rintro i z t hi ⟨s1, s2, s3, W, hW, g1, g2, g3, rfl⟩
    rw [rangeT_at hi]
    obtain ⟨bx, s, W2, hW2, e⟩ := body_ok (b := b) (ns := ns) (k := (i : Int)) (Int.natCast_nonneg _) g2 g3 hW
    refine ⟨_, _, ?_, e, _, _, _, W2, hW2, .inr ⟨_, rfl⟩, .inr ⟨_, rfl⟩, .inr ⟨_, rfl⟩, rfl⟩
    rcases g1 with rfl | ⟨t, rfl⟩ <;> rfl)
  exact ⟨s1, s2, s3, W, hW, h1⟩
theorem lgR_ok (b : Bool) (ns : List Int) : ∃ j : Int, lgR (z0 b ns) = some (z0 b ns, scK (Fn.rangeT 0 j)) := by
  have hj : ∃ j : Int, j = (if (if (ns.length : Int) < 3 then (ns.length : Int) else 3) > 1 then (if (ns.length : Int) < 3 then (ns.length : Int) else 3) else 1) := ⟨_, rfl⟩
  obtain ⟨j, hj⟩ := hj
  have p62 : (2 : Int) ^ 62 = 4611686018427387904 := by decide
  have hr : inRng j = true := by
    unfold inRng
    rw [p62, Bool.and_eq_true]
    refine ⟨decide_eq_true ?_, decide_eq_true ?_⟩ <;> (rw [hj]; split <;> (try split) <;> omega)
  refine ⟨j, ?_⟩
  have e : lgR (z0 b ns) = (if inRng (if (if ((ns.map T.int).length : Int) < 3 then ((ns.map T.int).length : Int) else 3) > 1 then (if ((ns.map T.int).length : Int) < 3 then ((ns.map T.int).length : Int) else 3) else 1) = true then some (z0 b ns, scK (Fn.rangeT 0 (if (if ((ns.map T.int).length : Int) < 3 then ((ns.map T.int).length : Int) else 3) > 1 then (if ((ns.map T.int).length : Int) < 3 then ((ns.map T.int).length : Int) else 3) else 1))) else none) := by cases b <;> rfl
  rw [e, List.length_map, ← hj, if_pos hr]
theorem law_true (b : Bool) (ns : List Int) : F_Law [.val (scrT b ns)] = some ([.no], .val (.bl true)) := by
  obtain ⟨j, eR⟩ := lgR_ok b ns
  obtain ⟨s1, s2, s3, W, hW, e⟩ := outer_ok eR
  have e3 : rd_Law ⟨[.val (scrT b ns)] ++ List.replicate 10 .no, []⟩ = some (.rt ⟨[.val (scrT b ns), s1, s2, s3] ++ W, [.val (.bl true)]⟩) := by
    show rd_Law (z0 b ns) = _
    rw [lg_eq, sSeq_nx e]
    rfl
  exact runF_rt (n := 1) (m := 10) (s := rd_Law) e3 rfl rfl
end L37
set_option Elab.async false
set_option linter.all false
set_option maxRecDepth 100000
set_option maxHeartbeats 4000000
namespace L37
open PySem PySem.Spec PyProof.Rows L2 Rw Fn LamX
def dIsIntegerFrom : He.DefD := ⟨("is_integer_from", none), "is_integer_from", "is_integer_from", defArgs sIsIntegerFrom, defBody sIsIntegerFrom, defScope sIsIntegerFrom, [], []⟩
def dIsNumber : He.DefD := ⟨("is_number", none), "is_number", "is_number", defArgs sIsNumber, defBody sIsNumber, defScope sIsNumber, [], []⟩
def dIsSequence : He.DefD := ⟨("is_sequence", none), "is_sequence", "is_sequence", defArgs sIsSequence, defBody sIsSequence, defScope sIsSequence, [], []⟩
def dIsName : He.DefD := ⟨("is_name", none), "is_name", "is_name", defArgs sIsName, defBody sIsName, defScope sIsName, [], []⟩
def dMeasureInit : He.DefD := ⟨("Measure", some "__init__"), "__init__", "Measure.__init__", defArgs sMeasureInit, defBody sMeasureInit, defScope sMeasureInit, [], []⟩
def dMeasureLets : He.DefD := ⟨("Measure", some "lets"), "lets", "Measure.lets", defArgs sMeasureLets, defBody sMeasureLets, defScope sMeasureLets, [], []⟩
def dAsRain : He.DefD := ⟨("as_rain", none), "as_rain", "as_rain", defArgs sAsRain, defBody sAsRain, defScope sAsRain, [], []⟩
def dPlayDay : He.DefD := ⟨("play_day", none), "play_day", "play_day", defArgs sPlayDay, defBody sPlayDay, defScope sPlayDay, [], []⟩
def dPutOff : He.DefD := ⟨("_put_off", none), "_put_off", "_put_off", defArgs sPutOff, defBody sPutOff, defScope sPutOff, [], []⟩
def dNewDay : He.DefD := ⟨("_new_day", none), "_new_day", "_new_day", defArgs sNewDay, defBody sNewDay, defScope sNewDay, [], []⟩
def dMatchesNear : He.DefD := ⟨("_matches_near", none), "_matches_near", "_matches_near", defArgs sMatchesNear, defBody sMatchesNear, defScope sMatchesNear, [], []⟩
def dIsBarred : He.DefD := ⟨("_is_barred", none), "_is_barred", "_is_barred", defArgs sIsBarred, defBody sIsBarred, defScope sIsBarred, [], []⟩
def dFirstRain : He.DefD := ⟨("first_rain", none), "first_rain", "first_rain", defArgs sFirstRain, defBody sFirstRain, defScope sFirstRain, [], []⟩
def dDaysLet : He.DefD := ⟨("days_let", none), "days_let", "days_let", defArgs sDaysLet, defBody sDaysLet, defScope sDaysLet, [], []⟩
def dStep : He.DefD := ⟨("step", none), "step", "step", defArgs sStep, defBody sStep, defScope sStep, [], []⟩
def dRaceStep : He.DefD := ⟨("race_step", none), "race_step", "race_step", defArgs sRaceStep, defBody sRaceStep, defScope sRaceStep, [], []⟩
def dOwnDays : He.DefD := ⟨("_own_days", none), "_own_days", "_own_days", defArgs sOwnDays, defBody sOwnDays, defScope sOwnDays, [], []⟩
def dSearch : He.DefD := ⟨("search", none), "search", "search", defArgs sSearch, defBody sSearch, defScope sSearch, [], []⟩
def dMarksTo : He.DefD := ⟨("_marks_to", none), "_marks_to", "_marks_to", defArgs sMarksTo, defBody sMarksTo, defScope sMarksTo, [], []⟩
def dAlike : He.DefD := ⟨("alike", none), "alike", "alike", defArgs sAlike, defBody sAlike, defScope sAlike, [], []⟩
def dParting : He.DefD := ⟨("parting", none), "parting", "parting", defArgs sParting, defBody sParting, defScope sParting, [], []⟩
def dOrderCounts : He.DefD := ⟨("order_counts", none), "order_counts", "order_counts", defArgs sOrderCounts, defBody sOrderCounts, defScope sOrderCounts, [], []⟩
def dNeverLater : He.DefD := ⟨("never_later", none), "never_later", "never_later", defArgs sNeverLater, defBody sNeverLater, defScope sNeverLater, [], []⟩
def dLater : He.DefD := ⟨("later", none), "later", "later", defArgs sLater, defBody sLater, defScope sLater, [], []⟩
def dPairSteps : He.DefD := ⟨("_pair_steps", none), "_pair_steps", "_pair_steps", defArgs sPairSteps, defBody sPairSteps, defScope sPairSteps, [], []⟩
def dRaceSteps : He.DefD := ⟨("_race_steps", none), "_race_steps", "_race_steps", defArgs sRaceSteps, defBody sRaceSteps, defScope sRaceSteps, [], []⟩
def dPerverse : He.DefD := ⟨("perverse", none), "perverse", "perverse", defArgs sPerverse, defBody sPerverse, defScope sPerverse, [], []⟩
def dPerverseRain : He.DefD := ⟨("perverse_rain", none), "perverse_rain", "perverse_rain", defArgs sPerverseRain, defBody sPerverseRain, defScope sPerverseRain, [], []⟩
def dSteps : He.DefD := ⟨("_steps", none), "_steps", "_steps", defArgs sSteps, defBody sSteps, defScope sSteps, [], []⟩
def dRuleInit : He.DefD := ⟨("Rule", some "__init__"), "__init__", "Rule.__init__", defArgs sRuleInit, defBody sRuleInit, defScope sRuleInit, [.str "first"], []⟩
def dRuleBut : He.DefD := ⟨("Rule", some "but"), "but", "Rule.but", defArgs sRuleBut, defBody sRuleBut, defScope sRuleBut, [.non, .non, .non, .non], []⟩
def dWeekInit : He.DefD := ⟨("Week", some "__init__"), "__init__", "Week.__init__", defArgs sWeekInit, defBody sWeekInit, defScope sWeekInit, [], []⟩
def dWeekOn : He.DefD := ⟨("Week", some "on"), "on", "Week.on", defArgs sWeekOn, defBody sWeekOn, defScope sWeekOn, [], []⟩
def dAreMatches : He.DefD := ⟨("_are_matches", none), "_are_matches", "_are_matches", defArgs sAreMatches, defBody sAreMatches, defScope sAreMatches, [], []⟩
def dIsMatch : He.DefD := ⟨("_is_match", none), "_is_match", "_is_match", defArgs sIsMatch, defBody sIsMatch, defScope sIsMatch, [], []⟩
def dBox : He.DefD := ⟨("_law_box", none), "_law_box", "_law_box", defArgs sBox, defBody sBox, defScope sBox, [], []⟩
def dTake : He.DefD := ⟨("_law_take", none), "_law_take", "_law_take", defArgs sTake, defBody sTake, defScope sTake, [], []⟩
def dLaw : He.DefD := ⟨("law", none), "law", "law", defArgs sLaw, defBody sLaw, defScope sLaw, [], []⟩
def hdefs : List He.DefD := [dIsIntegerFrom, dIsNumber, dIsSequence, dIsName, dMeasureInit, dMeasureLets, dAsRain, dPlayDay, dPutOff, dNewDay, dMatchesNear, dIsBarred, dFirstRain, dDaysLet, dStep, dRaceStep, dOwnDays, dSearch, dMarksTo, dAlike, dParting, dOrderCounts, dNeverLater, dLater, dPairSteps, dRaceSteps, dPerverse, dPerverseRain, dSteps, dRuleInit, dRuleBut, dWeekInit, dWeekOn, dAreMatches, dIsMatch, dBox, dTake, dLaw]
def hfacts : List He.Fa := [.glo "is_integer_from", .glo "is_number", .glo "is_sequence", .glo "is_name", .glo "as_rain", .glo "play_day", .glo "_put_off", .glo "_new_day", .glo "_matches_near", .glo "_is_barred", .glo "first_rain", .glo "days_let", .glo "step", .glo "race_step", .glo "_own_days", .glo "search", .glo "_marks_to", .glo "alike", .glo "parting", .glo "order_counts", .glo "never_later", .glo "later", .glo "_pair_steps", .glo "_race_steps", .glo "perverse", .glo "perverse_rain", .glo "_steps", .glo "_are_matches", .glo "_is_match", .glo "_law_box", .glo "_law_take", .glo "law", .glo "Week", .cls "Week", .mkr "Week", .noat "Week" "days", .noat "Week" "matches", .meth "Week" "on", .glo "Rule", .cls "Rule", .mkr "Rule", .noat "Rule" "gap", .noat "Rule" "window", .noat "Rule" "let", .noat "Rule" "order", .meth "Rule" "but", .glo "Measure", .cls "Measure", .mkr "Measure", .noat "Measure" "most", .noat "Measure" "span", .meth "Measure" "lets", .glo "ORDERS", .str "LETTERS" "abcdefghijklmnopqrstuvwxyz", .glo "START", .free "abs", .free "all", .free "any", .free "bool", .free "enumerate", .free "int", .free "isinstance", .free "len", .free "list", .free "max", .free "min", .free "range", .free "set", .free "sorted", .free "str", .free "tuple", .free "zip"]
def hex (K : PySem.W.Frag) : Bool := tupB K "ORDERS" ["first", "last"] && (trB K (.tup [.tup [], .tup [], .tup []]) (.ref (He.ga K "START")) && (decide ([(He.cT K ("parting", none)).2, (He.cT K ("later", none)).2, (He.cT K ("perverse_rain", none)).2].Nodup) && (true)))
def htabs : List He.Defn := [("parting", none), ("later", none), ("perverse_rain", none)]
theorem txt_of {K : PySem.W.Frag} {h : Heap} {mg : Str → Option Value} {w : World} (X : K.In h) (G : h.Ns mainGlobals mg) (c : He.SaysX hfacts hdefs [] htabs hex w h K) : ∃ T : Txt K mg, csT T = htabs.map (He.cT K) := by
  have d : He.SaysD hfacts hdefs K := congrArg (fun z : He.AlT => z.1) c.t
  have e0 := c.more
  unfold hex at e0
  rw [Bool.and_eq_true] at e0
  obtain ⟨eORDERS, e0⟩ := e0
  rw [Bool.and_eq_true] at e0
  obtain ⟨eSTART, e0⟩ := e0
  rw [Bool.and_eq_true] at e0
  obtain ⟨etnd, e0⟩ := e0
  have etnd := of_decide_eq_true etnd
  obtain ⟨fdIsIntegerFrom, DIsIntegerFrom⟩ := d.def_ 0 (d := dIsIntegerFrom) rfl
  obtain ⟨fdIsNumber, DIsNumber⟩ := d.def_ 1 (d := dIsNumber) rfl
  obtain ⟨fdIsSequence, DIsSequence⟩ := d.def_ 2 (d := dIsSequence) rfl
  obtain ⟨fdIsName, DIsName⟩ := d.def_ 3 (d := dIsName) rfl
  obtain ⟨fdMeasureInit, DMeasureInit⟩ := d.def_ 4 (d := dMeasureInit) rfl
  obtain ⟨fdMeasureLets, DMeasureLets⟩ := d.def_ 5 (d := dMeasureLets) rfl
  obtain ⟨fdAsRain, DAsRain⟩ := d.def_ 6 (d := dAsRain) rfl
  obtain ⟨fdPlayDay, DPlayDay⟩ := d.def_ 7 (d := dPlayDay) rfl
  obtain ⟨fdPutOff, DPutOff⟩ := d.def_ 8 (d := dPutOff) rfl
  obtain ⟨fdNewDay, DNewDay⟩ := d.def_ 9 (d := dNewDay) rfl
  obtain ⟨fdMatchesNear, DMatchesNear⟩ := d.def_ 10 (d := dMatchesNear) rfl
  obtain ⟨fdIsBarred, DIsBarred⟩ := d.def_ 11 (d := dIsBarred) rfl
  obtain ⟨fdFirstRain, DFirstRain⟩ := d.def_ 12 (d := dFirstRain) rfl
  obtain ⟨fdDaysLet, DDaysLet⟩ := d.def_ 13 (d := dDaysLet) rfl
  obtain ⟨fdStep, DStep⟩ := d.def_ 14 (d := dStep) rfl
  obtain ⟨fdRaceStep, DRaceStep⟩ := d.def_ 15 (d := dRaceStep) rfl
  obtain ⟨fdOwnDays, DOwnDays⟩ := d.def_ 16 (d := dOwnDays) rfl
  obtain ⟨fdSearch, DSearch⟩ := d.def_ 17 (d := dSearch) rfl
  obtain ⟨fdMarksTo, DMarksTo⟩ := d.def_ 18 (d := dMarksTo) rfl
  obtain ⟨fdAlike, DAlike⟩ := d.def_ 19 (d := dAlike) rfl
  obtain ⟨fdParting, DParting⟩ := d.def_ 20 (d := dParting) rfl
  obtain ⟨fdOrderCounts, DOrderCounts⟩ := d.def_ 21 (d := dOrderCounts) rfl
  obtain ⟨fdNeverLater, DNeverLater⟩ := d.def_ 22 (d := dNeverLater) rfl
  obtain ⟨fdLater, DLater⟩ := d.def_ 23 (d := dLater) rfl
  obtain ⟨fdPairSteps, DPairSteps⟩ := d.def_ 24 (d := dPairSteps) rfl
  obtain ⟨fdRaceSteps, DRaceSteps⟩ := d.def_ 25 (d := dRaceSteps) rfl
  obtain ⟨fdPerverse, DPerverse⟩ := d.def_ 26 (d := dPerverse) rfl
  obtain ⟨fdPerverseRain, DPerverseRain⟩ := d.def_ 27 (d := dPerverseRain) rfl
  obtain ⟨fdSteps, DSteps⟩ := d.def_ 28 (d := dSteps) rfl
  obtain ⟨fdRuleInit, DRuleInit⟩ := d.def_ 29 (d := dRuleInit) rfl
  obtain ⟨fdRuleBut, DRuleBut⟩ := d.def_ 30 (d := dRuleBut) rfl
  obtain ⟨fdWeekInit, DWeekInit⟩ := d.def_ 31 (d := dWeekInit) rfl
  obtain ⟨fdWeekOn, DWeekOn⟩ := d.def_ 32 (d := dWeekOn) rfl
  obtain ⟨fdAreMatches, DAreMatches⟩ := d.def_ 33 (d := dAreMatches) rfl
  obtain ⟨fdIsMatch, DIsMatch⟩ := d.def_ 34 (d := dIsMatch) rfl
  obtain ⟨fdBox, DBox⟩ := d.def_ 35 (d := dBox) rfl
  obtain ⟨fdTake, DTake⟩ := d.def_ 36 (d := dTake) rfl
  obtain ⟨fdLaw, DLaw⟩ := d.def_ 37 (d := dLaw) rfl
  obtain ⟨kLETTERS, zLETTERS⟩ := He.str_ok X G (d.fact 53 (f := .str "LETTERS" "abcdefghijklmnopqrstuvwxyz") rfl)
  exact ⟨{
    fIsIntegerFrom := He.fAd K ("is_integer_from", none), fdIsIntegerFrom := fdIsIntegerFrom, FIsIntegerFrom := fun_of DIsIntegerFrom,
    gIsIntegerFrom := He.glo_ok X G (d.fact 0 (f := .glo "is_integer_from") rfl),
    fIsNumber := He.fAd K ("is_number", none), fdIsNumber := fdIsNumber, FIsNumber := fun_of DIsNumber,
    gIsNumber := He.glo_ok X G (d.fact 1 (f := .glo "is_number") rfl),
    fIsSequence := He.fAd K ("is_sequence", none), fdIsSequence := fdIsSequence, FIsSequence := fun_of DIsSequence,
    gIsSequence := He.glo_ok X G (d.fact 2 (f := .glo "is_sequence") rfl),
    fIsName := He.fAd K ("is_name", none), fdIsName := fdIsName, FIsName := fun_of DIsName,
    gIsName := He.glo_ok X G (d.fact 3 (f := .glo "is_name") rfl),
    fMeasureInit := He.fAd K ("Measure", some "__init__"), fdMeasureInit := fdMeasureInit, FMeasureInit := fun_of DMeasureInit,
    fMeasureLets := He.fAd K ("Measure", some "lets"), fdMeasureLets := fdMeasureLets, FMeasureLets := fun_of DMeasureLets,
    fAsRain := He.fAd K ("as_rain", none), fdAsRain := fdAsRain, FAsRain := fun_of DAsRain,
    gAsRain := He.glo_ok X G (d.fact 4 (f := .glo "as_rain") rfl),
    fPlayDay := He.fAd K ("play_day", none), fdPlayDay := fdPlayDay, FPlayDay := fun_of DPlayDay,
    gPlayDay := He.glo_ok X G (d.fact 5 (f := .glo "play_day") rfl),
    fPutOff := He.fAd K ("_put_off", none), fdPutOff := fdPutOff, FPutOff := fun_of DPutOff,
    gPutOff := He.glo_ok X G (d.fact 6 (f := .glo "_put_off") rfl),
    fNewDay := He.fAd K ("_new_day", none), fdNewDay := fdNewDay, FNewDay := fun_of DNewDay,
    gNewDay := He.glo_ok X G (d.fact 7 (f := .glo "_new_day") rfl),
    fMatchesNear := He.fAd K ("_matches_near", none), fdMatchesNear := fdMatchesNear, FMatchesNear := fun_of DMatchesNear,
    gMatchesNear := He.glo_ok X G (d.fact 8 (f := .glo "_matches_near") rfl),
    fIsBarred := He.fAd K ("_is_barred", none), fdIsBarred := fdIsBarred, FIsBarred := fun_of DIsBarred,
    gIsBarred := He.glo_ok X G (d.fact 9 (f := .glo "_is_barred") rfl),
    fFirstRain := He.fAd K ("first_rain", none), fdFirstRain := fdFirstRain, FFirstRain := fun_of DFirstRain,
    gFirstRain := He.glo_ok X G (d.fact 10 (f := .glo "first_rain") rfl),
    fDaysLet := He.fAd K ("days_let", none), fdDaysLet := fdDaysLet, FDaysLet := fun_of DDaysLet,
    gDaysLet := He.glo_ok X G (d.fact 11 (f := .glo "days_let") rfl),
    fStep := He.fAd K ("step", none), fdStep := fdStep, FStep := fun_of DStep,
    gStep := He.glo_ok X G (d.fact 12 (f := .glo "step") rfl),
    fRaceStep := He.fAd K ("race_step", none), fdRaceStep := fdRaceStep, FRaceStep := fun_of DRaceStep,
    gRaceStep := He.glo_ok X G (d.fact 13 (f := .glo "race_step") rfl),
    fOwnDays := He.fAd K ("_own_days", none), fdOwnDays := fdOwnDays, FOwnDays := fun_of DOwnDays,
    gOwnDays := He.glo_ok X G (d.fact 14 (f := .glo "_own_days") rfl),
    fSearch := He.fAd K ("search", none), fdSearch := fdSearch, FSearch := fun_of DSearch,
    gSearch := He.glo_ok X G (d.fact 15 (f := .glo "search") rfl),
    fMarksTo := He.fAd K ("_marks_to", none), fdMarksTo := fdMarksTo, FMarksTo := fun_of DMarksTo,
    gMarksTo := He.glo_ok X G (d.fact 16 (f := .glo "_marks_to") rfl),
    fAlike := He.fAd K ("alike", none), fdAlike := fdAlike, FAlike := fun_of DAlike,
    gAlike := He.glo_ok X G (d.fact 17 (f := .glo "alike") rfl),
    fParting := He.fAd K ("parting", none), fdParting := fdParting, cParting := (He.cT K ("parting", none)).1, PParting := (He.cT K ("parting", none)).2, LParting := func_of (p := ("parting", none)) DParting,
    gParting := He.glo_ok X G (d.fact 18 (f := .glo "parting") rfl),
    fOrderCounts := He.fAd K ("order_counts", none), fdOrderCounts := fdOrderCounts, FOrderCounts := fun_of DOrderCounts,
    gOrderCounts := He.glo_ok X G (d.fact 19 (f := .glo "order_counts") rfl),
    fNeverLater := He.fAd K ("never_later", none), fdNeverLater := fdNeverLater, FNeverLater := fun_of DNeverLater,
    gNeverLater := He.glo_ok X G (d.fact 20 (f := .glo "never_later") rfl),
    fLater := He.fAd K ("later", none), fdLater := fdLater, cLater := (He.cT K ("later", none)).1, PLater := (He.cT K ("later", none)).2, LLater := func_of (p := ("later", none)) DLater,
    gLater := He.glo_ok X G (d.fact 21 (f := .glo "later") rfl),
    fPairSteps := He.fAd K ("_pair_steps", none), fdPairSteps := fdPairSteps, FPairSteps := fun_of DPairSteps,
    gPairSteps := He.glo_ok X G (d.fact 22 (f := .glo "_pair_steps") rfl),
    fRaceSteps := He.fAd K ("_race_steps", none), fdRaceSteps := fdRaceSteps, FRaceSteps := fun_of DRaceSteps,
    gRaceSteps := He.glo_ok X G (d.fact 23 (f := .glo "_race_steps") rfl),
    fPerverse := He.fAd K ("perverse", none), fdPerverse := fdPerverse, FPerverse := fun_of DPerverse,
    gPerverse := He.glo_ok X G (d.fact 24 (f := .glo "perverse") rfl),
    fPerverseRain := He.fAd K ("perverse_rain", none), fdPerverseRain := fdPerverseRain, cPerverseRain := (He.cT K ("perverse_rain", none)).1, PPerverseRain := (He.cT K ("perverse_rain", none)).2, LPerverseRain := func_of (p := ("perverse_rain", none)) DPerverseRain,
    gPerverseRain := He.glo_ok X G (d.fact 25 (f := .glo "perverse_rain") rfl),
    fSteps := He.fAd K ("_steps", none), fdSteps := fdSteps, FSteps := fun_of DSteps,
    gSteps := He.glo_ok X G (d.fact 26 (f := .glo "_steps") rfl),
    fRuleInit := He.fAd K ("Rule", some "__init__"), fdRuleInit := fdRuleInit, FRuleInit := DRuleInit,
    fRuleBut := He.fAd K ("Rule", some "but"), fdRuleBut := fdRuleBut, FRuleBut := DRuleBut,
    fWeekInit := He.fAd K ("Week", some "__init__"), fdWeekInit := fdWeekInit, FWeekInit := fun_of DWeekInit,
    fWeekOn := He.fAd K ("Week", some "on"), fdWeekOn := fdWeekOn, FWeekOn := fun_of DWeekOn,
    fAreMatches := He.fAd K ("_are_matches", none), fdAreMatches := fdAreMatches, FAreMatches := fun_of DAreMatches,
    gAreMatches := He.glo_ok X G (d.fact 27 (f := .glo "_are_matches") rfl),
    fIsMatch := He.fAd K ("_is_match", none), fdIsMatch := fdIsMatch, FIsMatch := fun_of DIsMatch,
    gIsMatch := He.glo_ok X G (d.fact 28 (f := .glo "_is_match") rfl),
    fBox := He.fAd K ("_law_box", none), fdBox := fdBox, FBox := fun_of DBox,
    gBox := He.glo_ok X G (d.fact 29 (f := .glo "_law_box") rfl),
    fTake := He.fAd K ("_law_take", none), fdTake := fdTake, FTake := fun_of DTake,
    gTake := He.glo_ok X G (d.fact 30 (f := .glo "_law_take") rfl),
    fLaw := He.fAd K ("law", none), fdLaw := fdLaw, FLaw := fun_of DLaw,
    gLaw := He.glo_ok X G (d.fact 31 (f := .glo "law") rfl),
    CWeek := He.ga K "Week", gWeek := He.glo_ok X G (d.fact 32 (f := .glo "Week") rfl),
    clWeek := He.cls_ok (d.fact 33 (f := .cls "Week") rfl),
    MWeek := He.mkr_ok (d.fact 34 (f := .mkr "Week") rfl),
    nWeek_days := He.noat_ok (d.fact 35 (f := .noat "Week" "days") rfl),
    nWeek_matches := He.noat_ok (d.fact 36 (f := .noat "Week" "matches") rfl),
    mWeekOn := He.meth_ok (d.fact 37 (f := .meth "Week" "on") rfl),
    CRule := He.ga K "Rule", gRule := He.glo_ok X G (d.fact 38 (f := .glo "Rule") rfl),
    clRule := He.cls_ok (d.fact 39 (f := .cls "Rule") rfl),
    MRule := He.mkr_ok (d.fact 40 (f := .mkr "Rule") rfl),
    nRule_gap := He.noat_ok (d.fact 41 (f := .noat "Rule" "gap") rfl),
    nRule_window := He.noat_ok (d.fact 42 (f := .noat "Rule" "window") rfl),
    nRule_let := He.noat_ok (d.fact 43 (f := .noat "Rule" "let") rfl),
    nRule_order := He.noat_ok (d.fact 44 (f := .noat "Rule" "order") rfl),
    mRuleBut := He.meth_ok (d.fact 45 (f := .meth "Rule" "but") rfl),
    CMeasure := He.ga K "Measure", gMeasure := He.glo_ok X G (d.fact 46 (f := .glo "Measure") rfl),
    clMeasure := He.cls_ok (d.fact 47 (f := .cls "Measure") rfl),
    MMeasure := He.mkr_ok (d.fact 48 (f := .mkr "Measure") rfl),
    nMeasure_most := He.noat_ok (d.fact 49 (f := .noat "Measure" "most") rfl),
    nMeasure_span := He.noat_ok (d.fact 50 (f := .noat "Measure" "span") rfl),
    mMeasureLets := He.meth_ok (d.fact 51 (f := .meth "Measure" "lets") rfl),
    aORDERS := He.ga K "ORDERS", gORDERS := He.glo_ok X G (d.fact 52 (f := .glo "ORDERS") rfl), qORDERS := fun H => tupB_ok (ws := ["first", "last"]) eORDERS H,
    kLETTERS := kLETTERS, gLETTERS := zLETTERS,
    aSTART := He.ga K "START", gSTART := He.glo_ok X G (d.fact 54 (f := .glo "START") rfl), qSTART := eSTART,
    m_abs := He.free_ok X G (d.fact 55 (f := .free "abs") rfl),
    m_all := He.free_ok X G (d.fact 56 (f := .free "all") rfl),
    m_any := He.free_ok X G (d.fact 57 (f := .free "any") rfl),
    m_bool := He.free_ok X G (d.fact 58 (f := .free "bool") rfl),
    m_enumerate := He.free_ok X G (d.fact 59 (f := .free "enumerate") rfl),
    m_int := He.free_ok X G (d.fact 60 (f := .free "int") rfl),
    m_isinstance := He.free_ok X G (d.fact 61 (f := .free "isinstance") rfl),
    m_len := He.free_ok X G (d.fact 62 (f := .free "len") rfl),
    m_list := He.free_ok X G (d.fact 63 (f := .free "list") rfl),
    m_max := He.free_ok X G (d.fact 64 (f := .free "max") rfl),
    m_min := He.free_ok X G (d.fact 65 (f := .free "min") rfl),
    m_range := He.free_ok X G (d.fact 66 (f := .free "range") rfl),
    m_set := He.free_ok X G (d.fact 67 (f := .free "set") rfl),
    m_sorted := He.free_ok X G (d.fact 68 (f := .free "sorted") rfl),
    m_str := He.free_ok X G (d.fact 69 (f := .free "str") rfl),
    m_tuple := He.free_ok X G (d.fact 70 (f := .free "tuple") rfl),
    m_zip := He.free_ok X G (d.fact 71 (f := .free "zip") rfl),
    tnd := etnd }, rfl⟩
end L37
set_option Elab.async false
set_option linter.all false
set_option maxRecDepth 100000
set_option maxHeartbeats 0
namespace L37
open PySem PySem.Spec PyProof.Rows L2 Rw Fn LamX
def names1 : List PySem.Str := ["__name__", "RainError", "InvalidWeek", "InvalidRule", "InvalidMeasure", "InvalidText", "InvalidRain", "LETTERS", "DIGITS", "is_integer_from", "is_number", "is_sequence", "is_name", "is_numeral", "Measure", "as_rain", "play_day", "_put_off", "_new_day", "_matches_near", "_is_barred", "first_rain", "days_let", "step"]
def names2 : List PySem.Str := ["START", "race_step", "_own_days", "search", "_marks_to", "alike", "parting", "order_counts", "never_later", "later", "_pair_steps", "_race_steps", "perverse", "perverse_rain", "_steps", "ORDERS", "Rule", "Week", "_are_matches", "_is_match", "_is_line", "_law_box", "_law_take", "_law_pick"]
def names3 : List PySem.Str := ["_law_mixed"]
abbrev namesT : List PySem.Str := names1 ++ names2 ++ names3
abbrev RT : PySem.W.OpenRow := PySem.W.OpenLaw.row PySem.Challenge.rw_rainweeks_k37_comparing_known_by_hand
abbrev hkT : PySem.W.Hook := He.hookX 4 hfacts hdefs [] htabs hex
def obT (s : PySem.W.SharedT) : He.AlX := He.obsX 4 hfacts hdefs [] htabs hex (HandSHeadRun.getT s)
theorem obT_eq (s : PySem.W.SharedT) : obT s = hkT.obs s.abs := He.obsX_eq (HandSHeadRun.getT_eq s)
theorem runT (w : World) : HandSHeadRun.RunEq RT (PySem.W.view RT.prog [60]) hkT obT 4000 namesT w := by
  intro os
  kernel_rfl
end L37
set_option Elab.async false
set_option linter.all false
set_option maxRecDepth 100000
set_option maxHeartbeats 0
namespace L37
open PySem PySem.Spec PyProof.Rows L2 Rw Fn LamX
theorem law_at {K : PySem.W.Frag} {mg : Str → Option Value} (T : Txt K mg) {w : World} {H : Hp} {a : Addr} {ns : List Int} {Ex : XK} (hT : ∀ p ∈ csT T, H p.2 = some (.tbl #[])) (h : SqL K H a (ns.map V.int)) :
    spF (evT T w none) 1 F_Law [.ref a] H (fun v _ => v = .bl true) Ex :=
  sp_lawG (fun b => law_true b ns) h (tabs_nil fun p hp => by
    have hp : p ∈ [(T.PParting, ("parting.<locals>.<lambda>" : Str)), (T.PLater, ("later.<locals>.<lambda>" : Str)), (T.PPerverseRain, ("perverse_rain.<locals>.<lambda>" : Str))] := hp
    rcases List.mem_cons.mp hp with rfl | hp
    · exact hT _ T.tmParting
    rcases List.mem_cons.mp hp with rfl | hp
    · exact hT _ T.tmLater
    rw [List.mem_singleton.mp hp]
    exact hT _ T.tmPerverseRain)
theorem bnd_law {K : PySem.W.Frag} {f : Addr} {fd : FuncData} (F : Fun K "law" "law" sLaw f fd) (s : Shared) (v : Value) : BindsTo s fd ⟨[v], []⟩ [("_law_script", v)] := by
  obtain ⟨_, _, _, _, _, _, _, _, _, rfl, _, _⟩ := F.ex
  exact .of_eq rfl
theorem law_end {w : World} {mg : Str → Option Value} {fa : Addr} {h : Heap} (Y : ∃ K : PySem.W.Frag, K.In h ∧ He.SaysX hfacts hdefs [] htabs hex w h K) (G : h.Ns mainGlobals mg) (hmg : mg ("law" : Str) = some (.ref fa)) :
    ∃ K : PySem.W.Frag, K.In h ∧ LawAtS PySem.Challenge.rw_rainweeks_k37_comparing_known_by_hand w K L2.CX0 14 63 "_law_script" mg fa h := by
  obtain ⟨K, KX, c⟩ := Y
  obtain ⟨T, hT⟩ := txt_of KX G c
  cases hmg.symm.trans T.gLaw
  have key : ∀ p ∈ csT T, ∃ q ∈ htabs, p = He.cT K q := fun p hp => by
    rw [hT] at hp
    obtain ⟨q, h1, h2⟩ := List.mem_map.mp hp
    exact ⟨q, h1, h2.symm⟩
  refine ⟨K, KX, T.fdLaw, csT T, spF (evT T w none) 1 F_Law, fun p hp => ?_, fun p hp => ?_, fun p hp => ?_, bnd_law T.FLaw, fun H a ns _ _ hTab hS => law_at T hTab hS, fun base _ _ TB => ok_Law T TB⟩
  · obtain ⟨q, h1, rfl⟩ := key p hp; exact c.empty q h1
  · obtain ⟨q, h1, rfl⟩ := key p hp; exact c.out q h1
  · obtain ⟨q, h1, rfl⟩ := key p hp; exact PySem.W.codeHd_of_K KX (c.hd q h1)
end L37
open PySem PySem.W PySem.Calls PyProof.Rows
set_option maxRecDepth 100000 in
set_option maxHeartbeats 0 in
theorem PySem.Challenge.cw_rainweeks_k37_comparing_known_by_hand_holds : PySem.Challenge.rw_rainweeks_k37_comparing_known_by_hand.Holds := by
  w_on; o_law
  refine HandSHeadRun.head_any (r := OpenLaw.row PySem.Challenge.rw_rainweeks_k37_comparing_known_by_hand) (q := view (OpenLaw.row PySem.Challenge.rw_rainweeks_k37_comparing_known_by_hand).prog [60]) (H := L37.hkT) (ob := L37.obT) (M := 4000) (loose := L37.namesT) (d := HandSHeadRun.topDef (OpenLaw.row PySem.Challenge.rw_rainweeks_k37_comparing_known_by_hand).prog 60) (kwd := []) L37.obT_eq
    (by kernel_rfl) (fun s => by kernel_rfl) L37.runT (by kernel_rfl) (by kernel_rfl) (by kernel_rfl) (by rfl) (by first | assumption | decide +kernel) (by decide +kernel) ⟨rfl, rfl, rfl, rfl, rfl, by decide +kernel⟩ ?hw ?hc
  case hw => w_witness2
  case hc =>
    refine Fn.walk_ofETs (l := PySem.Challenge.rw_rainweeks_k37_comparing_known_by_hand) (n := 63) (k := 14) (x := "_law_script") (CX := fun _ => L2.CX0) rfl (by decide) (by kernel_rfl) ⟨rfl, by decide, by decide⟩ ?F (fun _ _ _ _ _ z => z)
    intro w mg fa h Y G hmg0
    have hmg : mg ("law" : PySem.Str) = some (.ref fa) := by
      have e : (HandSHeadRun.topDef (OpenLaw.row PySem.Challenge.rw_rainweeks_k37_comparing_known_by_hand).prog 60).name = ("law" : PySem.Str) := by kernel_rfl
      rw [← e]
      exact hmg0
    exact L37.law_end Y G hmg
