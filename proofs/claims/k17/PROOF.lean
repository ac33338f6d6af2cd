import PyProof.Rows.All
import Wide.All
import OpenK.AllK
import Wide.FinOn
import HandS.ForMost
import HandS.ForExc
import HandS.ExcInit
import HandS.ExcField
import HandS.ExcIs
import HandS.IsInst
import HandS.Flow
import HandS.Defaults
import HandS.CallLocal
import HandS.Strs
import HandS.SetFor
import HandS.Sort
import HandS.TupSets
import KE.SortData
import KE.KRevSl
import HandS.SetKeys
import HandS.Walk
import KE.GoesMore
import KE.OsSortAny
import KE.SortLaws
import HandS.Style
import HandS.TupAny
import PySem.Challenge.RW_rainweeks_k17_plays_known_by_hand
set_option Elab.async false
set_option linter.all false
set_option maxRecDepth 100000
set_option maxHeartbeats 4000000
/-! own layer: promises of defs that are called where no repr is under way (the guards are known) -/
namespace Rw
open PySem PySem.Spec PyProof.Rows L2

/-- as FnOk, for calls around which nothing is being shown -/
structure FnG (P : Program) (w : World) (K : PySem.W.Frag) (mg : Str → Option Value) (base : Heap) (CX : CXT) (k : Nat) (f : Addr) (fd : FuncData) (ps : List Str) (sp : Sp) : Prop where
  count : ∀ vs H Q E, sp vs H Q E → vs.length = ps.length
  go : ∀ (A : Around) (ou : List Env) (s : Shared) (H : Hp) (ar : Args) (us : List Value) (vs : List V) (Q : VK) (E : XK), A.guards = some [] → Room k A → Env0 P w K mg base A ou s H → BindsTo s fd ar (ps.zip us) → Vals vs us → sp vs H Q E →
    codeAny (model P w) A (.call (.ref f) ar) (CR CX ou P w H s Q E) s
section
variable {P : Program} {w : World} {K : PySem.W.Frag} {mg : Str → Option Value} {base : Heap} {CX : CXT}
theorem ofOk {k : Nat} {f : Addr} {fd : FuncData} {ps : List Str} {sp : Sp} (F : FnOk P w K mg base CX k f fd ps sp) : FnG P w K mg base CX k f fd ps sp :=
  ⟨F.len, fun A ou s H ar us vs Q E _ hr he hb hv hs => F.run A ou s H ar us vs Q E hr he hb hv hs⟩
theorem FnG.up {j k : Nat} {f : Addr} {fd : FuncData} {ps : List Str} {sp : Sp} (F : FnG P w K mg base CX j f fd ps sp) (h : j ≤ k) : FnG P w K mg base CX k f fd ps sp :=
  ⟨F.count, fun A ou s H ar us vs Q E hg hr => F.go A ou s H ar us vs Q E hg (hr.mono h)⟩

/-- a def of the text, by its body -/
theorem fn_g {k : Nat} {f : Addr} {nm ql : Str} {pa : Arguments} {bo : List Stmt} {sc : Scope} {dV kV doc pm cdv ct oc : Value} {an od : Option Addr} {osl : Array (Option Value)} {N ps : List Str} {sp : Sp}
    (lk : K.lookup f = some ⟨oc, od, .func (PySem.W.fnOf nm ql pa bo sc dV kV doc pm an cdv ct), osl⟩) (hcd : PySem.W.codeIn K cdv ql = true) (S : FnScope N ps sc) (cnt : ∀ vs H Q E, sp vs H Q E → vs.length = ps.length)
    (hb : ∀ (A : Around) (ou : List Env) (s : Shared) (H : Hp) (vs : List V) (Q : VK) (E : XK), A.guards = some [] → Room k (A.deeper (envOfC ql sc s.heap.objs.size f cdv)) → sp vs H Q E →
      ∃ t, PSs (cxOf CX P w K mg base N ql sc f cdv A ou s H E) bo t ∧ t { nx := fun _ H' => Q .non H', rt := Q } (start N vs) H) :
    FnG P w K mg base CX (k + 1) f (PySem.W.fnOf nm ql pa bo sc dV kV doc pm an cdv ct) ps sp := by
  constructor
  · exact cnt
  · intro A ou s H ar us vs Q E hg hr e0 hbd r hsp
    have KX := e0.mod.kin.keeps (h' := s.heap) fun b o e => (e0.bs b o e).1
    have lim := e0.mod.nolimit.keeps (h' := s.heap) fun b o e => (e0.bs b o e).1
    have kinds : ∀ y ∈ ps.zip us, sc.names.lookup y.1 = some .local ∨ (sc.names.lookup y.1 = some .cell ∧ ((cellsFrom (s.heap.objs.size + 1) sc.names []).lookup y.1).isSome = true) := by
      rintro ⟨n, v⟩ hy
      exact (S.par n (List.of_mem_zip hy).1).imp id fun q => ⟨q, PySem.W.cellsFrom_some _ _ _ (.inl q)⟩
    apply codeAny_call_function hr.depth (KX _ _ lk) rfl S.co S.gen rfl (PySem.W.codeRec_of KX hcd)
    apply hbd
    refine wpAny_newFunctionEnv_cells S.kind kinds fun env he s1 x => ?_
    cases he
    obtain ⟨t, ht, hq⟩ := hb A ou s H vs Q E hg (hr.deeper _) hsp
    have I := inv_start (CX := CX) (P := P) (w := w) (K := K) (mg := mg) (base := base) (N := N) (qual := ql) (f := f) (cd := cdv) (E := E) S hr.hd e0 (cnt _ _ _ _ hsp) r x
    refine ⟨lim.keeps x.toInCall.keep, codeAny_func (wpAny_mono (ht.run [] s1 _ H _ I hq) (fun fl s' hs => ?_) fun _ _ z => z)⟩
    cases fl with
    | next => obtain ⟨_, H2, J, q⟩ := hs; exact ⟨V.non, H2, J.os, J.bare, J.base, J.hok, rfl, q⟩
    | ret u => obtain ⟨v, _, H2, J, rv, q⟩ := hs; exact ⟨v, H2, J.os, J.bare, J.base, J.hok, rv, q⟩
    | brk => obtain ⟨_, _, _, q⟩ := hs; exact q.elim
    | cont => obtain ⟨_, _, _, q⟩ := hs; exact q.elim

theorem Fun.g {x ql : Str} {st : Stmt} {f : Addr} {fd : FuncData} {N ps : List Str} {k : Nat} {sp : Sp} (F : Fun K x ql st f fd) (S : FnScope N ps (defScope st)) (cnt : ∀ vs H Q E, sp vs H Q E → vs.length = ps.length)
    (hb : ∀ (cdv : Value) (A : Around) (ou : List Env) (s : Shared) (H : Hp) (vs : List V) (Q : VK) (E : XK), A.guards = some [] → Room k (A.deeper (envOfC ql (defScope st) s.heap.objs.size f cdv)) → sp vs H Q E →
      ∃ t, PSs (cxOf CX0 P w K mg base N ql (defScope st) f cdv A ou s H E).nox (defBody st) t ∧ t { nx := fun _ H' => Q .non H', rt := Q } (start N vs) H) : FnG P w K mg base CX0 (k + 1) f fd ps sp := by
  obtain ⟨_, _, _, _, _, _, cdv, _, _, rfl, lk, hcd⟩ := F.ex
  exact fn_g lk hcd S cnt fun A ou s H vs Q E hg hr hsp => let ⟨t, h, q⟩ := hb cdv A ou s H vs Q E hg hr hsp; ⟨t, h.nox, q⟩
end

section
variable {X : Cx} {CX : CXT} {k : Nat} {f : Addr} {fd : FuncData} {ps : List Str} {sp : Sp} {dvs : List V} {ds : List Value} {E : XK} {x : Str} {p pos : Pos} {e : Expr} {es : List Expr} {t : TA}
theorem run_g {pins : List (Addr × Obj)} {σ : L2.St} {H : Hp} {s : Shared} {Q : VK} {us : List Value} {vs : List V} (F : FnG X.prog X.w X.K X.mg X.base CX k f fd ps sp) (hG : X.A.guards = some []) (hr : Room k X.A) (hb : Binds X.K fd ps ds) (hd : Vals dvs ds) (hx : Passes CX X E)
    (I : Inv X pins σ H s) (r : Vals vs us) (h : sp (vs ++ dvs) H Q E) : wpAny (model X.prog X.w) X.A (call (.ref f) us) (EP X pins σ Q) X.xe s := by
  have r2 : Vals (vs ++ dvs) (us ++ ds) := r.append hd
  have hn : (us ++ ds).length = ps.length := r2.length ▸ F.count _ _ _ _ h
  apply wpAny_call
  refine codeAny_mono (F.go X.A X.stack s H ⟨us, []⟩ _ _ Q E hG hr I.env0 (hb s us I.kIn hn) r2 h) ?_
  rintro (er | fl) s' hq
  · exact hx pins σ H s er s' I hq
  · cases fl <;> first | exact I.after hq | exact hq.elim
theorem pe_callG (F : FnG X.prog X.w X.K X.mg X.base CX k f fd ps sp) (hG : X.A.guards = some []) (hr : Room k X.A) (hg : Gl X x) (hm : X.mg x = some (.ref f)) (hk : PySem.W.keepIn X.K (.ref f) = true) (hb : Binds X.K fd ps ds) (hd : Vals dvs ds) (hx : Passes CX X E)
    (ha : PA X (e :: es) t) (hdb : (x == ("__debug__" : Str)) = false := by decide) (he : starEach (e :: es) X.env = (false, eval e X.env) :: starEach es X.env := by rfl) (hpl : (backTo pos (starEach es X.env)).any (·.1) = false := by rfl) :
    PE X (.Call (.Name x p) (e :: es) [] pos) (tCall sp dvs E t) := by
  constructor
  intro pins s σ H Q I h
  apply wpAny_Call_Name_kw
  refine ld_glob I hg hm (PySem.W.callWith_K (h₀ := X.base) I.ok.mod.kin hk (thn (ha.run pos pins s σ H _ I h) ?_) he hpl) hdb
  rintro us s1 ⟨vs, H1, I1, r, q⟩
  exact ⟨I1.kIn, run_g F hG hr hb hd hx I1 r q⟩
end

/-! ### repr of data -/
/-- data that can be shown: no dicts, ints of known size, not too deep, not too long -/
structure Shw (d : PyData) : Prop where
  sh : d.showable = true
  nd : d.hasDict = false
  dp : d.depth ≤ 60
  ln : d.shown.length ≤ sizeLine
def rRepr (K : PySem.W.Frag) : List V → Hp → VK → Prop := fun xs H Q => ∃ v d, xs = [v] ∧ Dp K H v d ∧ Shw d ∧ Q (.str d.shown) H
theorem call_repr {X : Cx} (hG : X.A.guards = some []) (hu : X.A.units + 64 < cLine) : CallR X (.builtin "repr") (rRepr X.K) := by
  intro pins s σ H xs us Q I r h
  obtain ⟨v, d, rfl, hd, hs, q⟩ := h
  obtain ⟨u, rfl, ru⟩ := vals1 r
  obtain ⟨as, R⟩ := Dp.reads I d v u hd ru
  have fin : ∀ {h' : Heap} {t : Tok} {tk : Nat}, (∀ b o, s.heap.get? b = some o → h'.get? b = some o) → EP X pins σ Q (.str d.shown t) { s with heap := h', toks := tk } := fun k => ⟨.str d.shown, H, I.kept k, ⟨_, rfl⟩, q⟩
  have big : ∀ a, u = .ref a → wpAny (model X.prog X.w) X.A (call (.builtin "repr") [u]) (EP X pins σ Q) X.xe s := by
    rintro a rfl
    exact repr_of_reads' R hs.sh (PyData.noDict_hsm hs.nd) hG (by have := hs.dp; omega) (fun _ _ z => z) (fun h' u tk k => fin k) hs.ln
  have ln := hs.ln
  have sh := hs.sh
  cases R with
  | none => exact PySem.P.repr_of_none (fin fun _ _ z => z)
  | bool b => exact PySem.P.repr_of_bool (fin fun _ _ z => z)
  | int i t => exact PySem.P.repr_of_int (by simpa [PyData.showable] using sh) (fin fun _ _ z => z)
  | str y t => exact PySem.P.repr_of_str (fin fun _ _ z => z) (by simpa only [PyData.shown] using ln)
  | list => exact big _ rfl
  | tuple => exact big _ rfl
  | dict => exact big _ rfl

/-! ### the end of a law: its promise, where nothing is being shown -/
section
variable {P : Program} {w : World} {K : PySem.W.Frag} {mg mb : Str → Option Value} {CX : CXT} {k : Nat} {fa a : Addr} {fd : FuncData} {x : Str} {sp : Sp} {s1 : Shared} {vs : List Value} {ns : List Int}
/-- from an abstract heap that tracks at most the script -/
theorem law_at {H : Hp} (KX : K.In s1.heap) (hns : s1.heap.Ns mainGlobals mg) (hb : s1.heap.Ns builtinsNs mb) (hbb : ∀ x : Str, x ≠ "__name__" → mb x = bootBuiltins x) (hlim : s1.heap.NoLimit) (hgen : s1.gens = #[])
    (ha : s1.heap.get? a = some { cls := .type "list", data := .seq vs.toArray }) (hr : Room k callerA)
    (F : ∀ base : Heap, K.In base → base.Ns mainGlobals mg → FnG P w K mg base CX k fa fd [x] sp) (hbind : ∀ (s : Shared) (u : Value), BindsTo s fd ⟨[u], []⟩ [(x, u)])
    (hsp : sp [.ref a] H (fun v _ => v = .bl true) fun _ _ _ => False) (hCX : ∀ e s', CX [] H s1 (fun _ _ _ => False) e s' → False)
    (only : Only H) (hok : HOk P w H s1.heap) (near : ∀ b, H b ≠ none → b = a) (apart : H a ≠ none → K.lookup a = none) :
    codeAny (model P w) callerA (.call (.ref fa) ⟨[.ref a], []⟩) (fun r s' => r = .ok (.ret (.bool true)) ∧ OldK s1.heap s'.heap ∧ s'.os = s1.os ∧ AllBare s'.gens) s1 := by
  have noDict : ∀ {b : Addr} {o : Obj} {es : Array DictEntry} {ep : Nat}, s1.heap.get? b = some o → o.data = .dict es ep → H b = none := by
    intro b o es ep e d
    by_cases q : H b = none
    · exact q
    · cases near b q
      rw [ha] at e
      cases e
      cases (show Data.seq vs.toArray _ = Data.dict es ep from d)
  have ns : ∀ {b : Addr} {m : Str → Option Value}, s1.heap.Ns b m → (hidT s1.heap H).Ns b m := fun {b m} z => by
    obtain ⟨o, es, ep, e, d, r⟩ := z
    exact ⟨o, es, ep, hidT_get e (noDict e d), d, r⟩
  have kb : K.In (hidT s1.heap H) := by
    intro b o e
    refine hidT_get (KX b o e) ?_
    by_cases q : H b = none
    · exact q
    · cases near b q
      rw [apart q] at e
      cases e
  have M : Mod K mg (hidT s1.heap H) := { kin := kb, glob := ns hns, blt := ⟨mb, ns hb, hbb⟩, nolimit := let ⟨mc, h1, h2⟩ := hlim; ⟨mc, ns h1, h2⟩ }
  have e0 : Env0 P w K mg (hidT s1.heap H) callerA [] s1 H := { frames := rfl, mod := M, bs := fun b o e => of_hidT e, bsz := Nat.le_of_eq (hidT_size _ _), funs := trivial, frf := (fun b z => nomatch z), hok := hok, bare := .of_eq hgen }
  refine codeAny_mono ((F _ kb (ns hns)).go callerA [] s1 H ⟨[.ref a], []⟩ [.ref a] [.ref a] _ _ rfl hr e0 (hbind s1 (.ref a)) (.cons rfl .nil) hsp) ?_
  rintro (e | fl) s' h
  · exact (hCX e s' h).elim
  · cases fl <;> first | exact h.elim | skip
    obtain ⟨v, H', os, bare, un, hok', r', q⟩ := h
    cases (show v = .bl true from q)
    cases (show _ = Value.bool true from r')
    refine ⟨rfl, OldK.of_keep fun b o e => ?_, os, bare⟩
    rcases only b with q | ⟨ob, xs, q⟩
    · exact un.keep b o e q (fun z => nomatch z) (fun z => nomatch z)
    · obtain ⟨e1, _⟩ := hok b _ q
      obtain ⟨e2, _⟩ := hok' b _ (un.frzs b ob _ q)
      exact e2.trans (e1.symm.trans e)
end
theorem law_g {P : Program} {w : World} {K : PySem.W.Frag} {mg mb : Str → Option Value} {CX : CXT} {k : Nat} {fa a : Addr} {fd : FuncData} {x : Str} {sp : Sp} {s1 : Shared} {vs : List Value} {ns : List Int}
    (KX : K.In s1.heap) (hns : s1.heap.Ns mainGlobals mg) (hb : s1.heap.Ns builtinsNs mb) (hbb : ∀ x : Str, x ≠ "__name__" → mb x = bootBuiltins x) (hlim : s1.heap.NoLimit) (hgen : s1.gens = #[])
    (ha : s1.heap.get? a = some { cls := .type "list", data := .seq vs.toArray }) (hi : IntsAre vs ns) (hl : ns.length ≤ sizeLine) (hr : Room k callerA)
    (F : ∀ base : Heap, K.In base → base.Ns mainGlobals mg → FnG P w K mg base CX k fa fd [x] sp) (hbind : ∀ (s : Shared) (u : Value), BindsTo s fd ⟨[u], []⟩ [(x, u)])
    (hsp : ∀ H : Hp, Only H → SqL K H a (ns.map V.int) → sp [.ref a] H (fun v _ => v = .bl true) fun _ _ _ => False) (hCX : ∀ H e s', CX [] H s1 (fun _ _ _ => False) e s' → False) :
    codeAny (model P w) callerA (.call (.ref fa) ⟨[.ref a], []⟩) (fun r s' => r = .ok (.ret (.bool true)) ∧ OldK s1.heap s'.heap ∧ s'.os = s1.os ∧ AllBare s'.gens) s1 := by
  have rv := vals_ints hi
  have hlen : vs.length = ns.length := hi.length
  rcases hk : K.lookup a with _ | o
  · have on : Only (fun b => if b = a then some (.frz { cls := .type "list", data := .seq vs.toArray } (.lst (ns.map V.int))) else none) := fun b => by
      by_cases e : b = a
      · exact .inr ⟨_, _, if_pos e⟩
      · exact .inl (if_neg e)
    have sq := fun (h : _) => hsp _ on h
    refine law_at KX hns hb hbb hlim hgen ha hr F hbind (sq (.inl (.inr ⟨_, if_pos rfl⟩))) (hCX _) on (fun b u z => ?_) (fun b z => ?_) fun _ => hk
    · by_cases e : b = a
      · cases e
        rw [if_pos rfl] at z
        cases z
        exact ⟨ha, by rw [List.length_map]; exact hl, vs, _, rv, ha⟩
      · rw [if_neg e] at z
        cases z
    · by_cases e : b = a
      · exact e
      · exact (z (if_neg e)).elim
  · have e := KX a o hk
    rw [ha] at e
    cases e
    have on : Only (fun _ => none) := fun _ => .inl rfl
    exact law_at KX hns hb hbb hlim hgen ha hr F hbind (hsp _ on (.inr ⟨_, vs.toArray, _, hk, rfl, rfl, rfl, by rw [List.size_toArray, hlen]; exact hl, by simpa using rv⟩)) (hCX _) on (fun b u z => nomatch (show (none : Option HO) = some u from z)) (fun b z => absurd rfl z) fun z => absurd rfl z

theorem walk_g {l : PySem.W.OpenLaw} {n k : Nat} {q : Program} {loose : List Str} {XP : (Str → Option Value) → Heap → Prop} {YP : World → Heap → Prop} {d : DefRec} {K : Params → PySem.W.Frag} {CX : CXT} {sp : PySem.W.Frag → Sp} {x : Str}
    (hn : l.most = some n) (hn2 : n ≤ sizeLine) (hdf : d.params.defaults = []) (hr : Room k callerA) (hY : ∀ (w : World) (h : Heap), YP w h → (K w.params).In h)
    (F : ∀ (w : World) (mg : Str → Option Value) (fa : Addr) (h : Heap), (K w.params).In h → h.Ns mainGlobals mg → mg d.name = some (.ref fa) →
      ∃ fd : FuncData, (∀ (s : Shared) (u : Value), BindsTo s fd ⟨[u], []⟩ [(x, u)]) ∧ ∀ base : Heap, (K w.params).In base → base.Ns mainGlobals mg → FnG l.prog w (K w.params) mg base CX k fa fd [x] (sp (K w.params)))
    (hsp : ∀ (K : PySem.W.Frag) (H : Hp) (a : Addr) (ns : List Int), ns.length ≤ n → Only H → SqL K H a (ns.map V.int) → sp K [.ref a] H (fun v _ => v = .bl true) fun _ _ _ => False)
    (hCX : ∀ (H : Hp) (s : Shared) (e : Value) (s' : Shared), CX [] H s (fun _ _ _ => False) e s' → False) : PySem.W.WalkO q loose XP YP l.row.toRowW d [] (fun f vs => PySem.call f vs) := by
  apply Att.attach_call hn hdf
  intro w s0 s1 mg mb fa o pm cd doc a vs ns G Y ho hd hcd hmg hobj hints hlen hg
  obtain ⟨fd, hb, hF⟩ := F w mg fa _ (hY w _ Y) G.T.g hmg
  exact law_g (hY w _ Y) G.T.g G.T.b G.T.builtins G.T.nolimit hg hobj hints (Nat.le_trans hlen hn2) hr hF hb (fun H hO hS => hsp _ H a ns hlen hO hS) fun H e s' => hCX H s1 e s'
end Rw
/-! own layer: exceptions of one field, as values and caught -/
namespace Rw
open PySem PySem.Spec PySem.Calls PyProof.Rows
open PySem.HandSPX (refsVE refsVE_contains excO)
section
variable {M : Model} {prog : Program} {w : World} {A : Around} {E : Value → Shared → Prop} {R : Result → Shared → Prop} {h : Heap} {g : Array GenState} {d : Drawn} {t : Nat} {os : OsState}
variable {nm q : Str} {C N : Addr} {bs bm bmB : List Value} {hdct : Bool} {sn : List Str} {sub : List Value} {ab : Bool} {col : Option Bool} {dd : Option Addr} {k0 k1 k2 k3 k5 : Option Value} {B newId initId : String} {rest : List Value} {kw : List (Str × Value)}
/-- the check ahead of __new__, keywords too -/
theorem xnew_check (F : ExcBaseFacts B newId initId bmB) (hT : ∀ X : String, bm.contains (.type X) = bmB.contains (.type X)) {Q : Unit → Shared → Prop} (hC : h.get? C = some (excClassObj nm q C N bs bm hdct sn sub ab col dd k0 k1 k2 k3 k5 newId))
    (hq : Q () ⟨h, g, d, t, os⟩) : wpAny M A (checkBuiltinCall newId ⟨.ref C :: rest, kw⟩) Q E ⟨h, g, d, t, os⟩ := by
  have hb : (Value.ref C :: bm).contains (.type B) = true := by rw [List.contains_cons, hT, F.hasB, Bool.or_true]
  have := F.noStar
  simp only [checkBuiltinCall, F.newKind, F.newSplit, F.newRow]
  repeat (first | with_reducible refine wpAny_loadPart_at hC ?_ | (refine wpAny_isSubtype_exc hC ?_; rw [hb]) | with_reducible refine wpAny_staticBase_exc hC ?_ | with_reducible refine wpAny_madeBy_exc hC ?_ | simp only [bne_self_eq_false, Bool.false_eq_true, if_false] | wp_step)
  exact hq
theorem xnew (F : ExcBaseFacts B newId initId bmB) (hT : ∀ X : String, bm.contains (.type X) = bmB.contains (.type X)) (hC : h.get? C = some (excClassObj nm q C N bs bm hdct sn sub ab col dd k0 k1 k2 k3 k5 newId))
    (hq : R (.ok (.ret (.ref (h.objs.size + 1)))) ⟨(h.push (W.kdv_tup rest)).push (excO C h.objs.size), g, d, t, os⟩) (hl : rest.length ≤ sizeLine) : codeAny (model prog w) A (.builtin newId ⟨.ref C :: rest, kw⟩) R ⟨h, g, d, t, os⟩ := by
  have he := F.ends
  have h1 : (Value.ref C :: bm).contains (.type B) = true := by rw [List.contains_cons, hT, F.hasB, Bool.or_true]
  have h2 : (Value.ref C :: bm).contains (.type "AttributeError") = false := by rw [List.contains_cons, hT, F.noAttr]; rfl
  have h3 : (Value.ref C :: bm).contains (.type "NameError") = false := by rw [List.contains_cons, hT, F.noName]; rfl
  apply codeAny_builtinAt F.entry
  unfold Builtin.«BaseException.__new__»
  apply PySem.wpAt_bind
  show PySem.wpAt _ _ _ (stack >>= _) _ _ _
  refine PySem.wpAt_bind (PySem.wpAt_stack fun p below => PySem.wpAt_of_wpAny ?_)
  wp_walk
  apply PySem.wpAt_of_wpAny
  rw [F.owner]
  repeat (first | with_reducible refine wpAny_madeHere_exc F.canon hC ?_ | with_reducible refine wpAny_loadPart_at hC ?_ | (with_reducible refine wpAny_isSubtype_exc hC ?_; first | rw [h1] | rw [h2] | rw [h3]) | wp_step)
  show R _ _
  rw [Heap.size_push]
  exact hq
/-- C(..), C's own __init__ is called on the new exception -/
theorem xcall (F : ExcBaseFacts B newId initId bmB) (hT : ∀ X : String, bm.contains (.type X) = bmB.contains (.type X)) {fI : Addr} (hC : h.get? C = some (excClassObj nm q C N bs bm hdct sn sub ab col dd k0 k1 k2 k3 k5 newId))
    (hi : W.Looks (model prog w) h (typeLookup (.ref C) "__init__") (some (.ref fI))) (hb : ∀ self, W.Looks (model prog w) h (bindSpecial (.ref fI) self) (.ref fI, [self])) (hl : rest.length ≤ sizeLine)
    (hq : codeAny (model prog w) (A.under (.builtin "type.__call__" ⟨.ref C :: rest, kw⟩)) (.call (.ref fI) ⟨.ref (h.objs.size + 1) :: rest, kw⟩) (W.InitBack (h.objs.size + 1) R) ⟨(h.push (W.kdv_tup rest)).push (excO C h.objs.size), g, d, t, os⟩) :
    codeAny (model prog w) A (.call (.ref C) ⟨rest, kw⟩) R ⟨h, g, d, t, os⟩ := by
  have f1 := tc_lookup
  have f2 := tc_bind (.ref C)
  have hTy : (⟨h, g, d, t, os⟩ : Shared).TypeIs (.ref C) "type" := ⟨_, hC, rfl⟩
  apply codeAny_of_tree
  show wpAny _ _ (callAny (.ref C) _) _ _ _
  repeat (any_goals (first | assumption | with_reducible refine wpAny_loadPart_at hC ?_ | wp_step))
  refine ⟨rfl, codeAny_call_builtin_at (Code.quiet_builtin _ (by decide +kernel)) entry_typeCall ?_⟩
  have f3 := tc_sub
  simp only [checkBuiltinCall, tc_kind, tc_split]
  repeat (any_goals (first | assumption | with_reducible refine wpAny_loadPart_at hC ?_ | with_reducible refine wpAny_onRaise ?_ | with_reducible refine wpAny_map ?_ | wp_step))
  refine codeAny_call_builtin_code (Code.quiet_builtin _ F.quiet) (xnew_check F hT hC ?_)
  refine xnew F hT hC ?_ hl
  show wpAny _ _ _ _ _ _
  have k : ∀ b o, h.get? b = some o → ((h.push (W.kdv_tup rest)).push (excO C h.objs.size)).get? b = some o := fun b o e => Heap.get?_push_of_some _ (Heap.get?_push_of_some _ e)
  have h1 := k _ _ hC
  have h2 : ((h.push (W.kdv_tup rest)).push (excO C h.objs.size)).get? (h.objs.size + 1) = some ({ cls := .ref C, data := .fields #[.ref h.objs.size, .none, .none, .none, .bool false, .none] } : Obj) := by heap_get
  have h3 : (Value.ref C :: bm).contains (.ref C) = true := by simp
  have i1 := hi.keeps k
  have b1 := (hb (.ref (h.objs.size + 1))).keeps k
  unfold isInstance
  repeat (first | with_reducible refine wpAny_loadPart_at h2 ?_ | (refine wpAny_isSubtype_exc h1 ?_; rw [h3]) | wp_step)
  show wpAny _ _ (typeLookup (.ref C) _) _ _ _
  refine i1.at (wpAny_holding (wpAny_bind (b1.at (wpAny_bind (wpAny_call (codeAny_mono hq ?_))))))
  rintro (e | fl) s' z
  · exact z
  · cases fl <;> first | exact z.elim | skip
    obtain ⟨rfl, z⟩ := z
    first
      | exact wpAny_pure (wpAny_pure z)
      | (wp_walk; exact z)
end
end Rw
namespace Rw
open PySem PySem.Spec PySem.Calls PyProof.Rows L2
open PySem.W (findIn findObj takesIn specialIn mroIn clsIn hasDictIn subIn typeIn)
section
variable {prog : Program} {w : World} {A : Around} {E : Value → Shared → Prop} {s : Shared} {K : PySem.W.Frag} {x D : Addr} {ox : Obj} {od : Option Obj}
/-- e.__class__ of an exception, whatever its own dict holds -/
theorem xcls {Q : Option Value → Shared → Prop} (T : ExcC K D) (X : K.In s.heap) (I : PySem.W.InstAt s.heap x ox D od) (h : Q (some (.ref D)) { s with toks := s.toks + 1 }) : wpAny (model prog w) A (getAttr? (.ref x) "__class__") Q E s := by
  obtain ⟨ga, gt, su, hd, ha, hn, ht, hm⟩ := T
  have hf : findObj K D od "__class__" = some (.bind (.builtin "getset_descriptor.__get__") (.builtin "object.__class__")) := by
    obtain ⟨cd, hc, _⟩ := PySem.W.any_some hd
    simp [findObj, hc, ha, hn, ht]
  obtain ⟨hp, g, d, t, os⟩ := s
  have l0 := I.type (M := model prog w)
  have l1 := PySem.W.looks_findIn (M := model prog w) X ga
  have l2 := PySem.W.looks_findIn (M := model prog w) X gt
  have l3 := PySem.W.looks_find (M := model prog w) X I hf
  have sb : PySem.W.Looks (model prog w) hp (isInstance (.ref x) (.type "BaseException")) true := l0.andThen (PySem.W.looks_subIn X su)
  have n0 : (false && onTheHeap (Value.builtin "BaseException.__getattribute__")) = false := rfl
  have n1 : (onTheHeap (Value.ref D) && Value.builtin "BaseException.__getattribute__" == Value.builtin "object.__getattribute__") = false := by
    rw [show (Value.builtin "BaseException.__getattribute__" == Value.builtin "object.__getattribute__") = false by decide +kernel, Bool.and_false]
  unfold getAttr? getAttrBy? getAttrBy
  refine wpAny_bind (wpAny_mkText (wpAny_bind (wpAny_attempt (wpAny_holding (wpAny_bind (l0.at (wpAny_bind (l1.at ?_))))))))
  refine PySem.W.KFB.if_not n1 ?_
  unfold getAttrByItsOwn hookBefore
  apply wpAny_bind
  refine PySem.W.KFB.if_so rfl (l2.at (wpAny_bind (wpAny_attempt (wpAny_holding ?_))))
  unfold callGetattribute
  refine PySem.W.KFB.if_not n0 ?_
  unfold boundAndCalled
  rw [PySem.F.excAttr_ValueError.ga.bind (.ref x)]
  refine wpAny_bind (wpAny_pure (wpAny_call (codeAny_call_builtin PySem.F.excAttr_ValueError.ga.plain PySem.F.entry_bexc_ga ?_)))
  refine @PySem.W.check_slot (model prog w) _ _ ⟨hp, g, d, t + 1, os⟩ "BaseException.__getattribute__" "BaseException" "__getattribute__" (.ref x) [.str "__class__" t] [] _ (by decide +kernel) (by decide +kernel) sb (PySem.F.args_bexc_ga _ _) ?_
  unfold Builtin.«object.__getattribute__»
  refine wpAny_bind (wpAny_of_eq (a := ((Value.ref x : Value), [Value.str "__class__" t])) (by first | rfl | (simp only [slotArgs]; rfl)) ?_)
  refine wpAny_bind (wpAny_pure (wpAny_bind (l0.at (wpAny_bind (l3.at ?_)))))
  refine (show wpAny _ _ (holding [Value.builtin "object.__class__"] (call (.builtin "getset_descriptor.__get__") [.builtin "object.__class__", .ref x, .ref D]) >>= ret) _ _ _ from wpAny_bind (wpAny_holding (wpAny_call (PySem.W.class_get (s := ⟨hp, g, d, t + 1, os⟩) X I hm (wpAny_pure ?_)))))
  refine (show wpAny _ _ (handedOut (.ref D)) _ _ _ from ?_)
  rw [PySem.W.handedOut_of (v := .ref D) rfl]
  first
    | exact wpAny_pure (wpAny_pure h)
    | exact wpAny_pure h
    | exact wpAny_pure (wpAny_bind (wpAny_pure (wpAny_pure h)))
theorem xkit (T : ExcC K D) : PySem.W.KitX K (.ref x) (.ref D) (fun h => ∃ ox od, PySem.W.InstAt h x ox D od) := by
  obtain ⟨cd, hc, _⟩ := PySem.W.any_some T.hd
  have at_cls : ∃ c' d' cd' sl', K.lookup D = some ⟨c', d', .cls cd', sl'⟩ := by
    unfold clsIn at hc
    split at hc
    · exact ⟨_, _, _, _, by assumption⟩
    · cases hc
  obtain ⟨c', d', cd', sl', ho⟩ := at_cls
  constructor
  · rintro M h X ⟨ox, od, I⟩
    exact I.type
  · intro M h X _ A' Q' E' s' k q
    unfold isType loadHead
    exact wpAny_bind (wpAny_loadPart (k _ _ (X _ _ ho)) (wpAny_pure q))
  · intro h tp dd its n sl X htp
    cases e : (Value.ref D == .ref tp) with
    | false => rfl
    | true =>
      cases Value.ref.inj (beq_iff_eq.mp e)
      rw [X _ _ ho] at htp
      cases htp
  · rintro prog w A E Q s X ⟨ox, od, I⟩ k
    exact xcls T X I k
end

/-! ### an exception of one field as a value -/
/-- at a an exception of C, its own dict at dx holds v as f -/
def exH (H : Hp) (C : Addr) (f : Str) (v : V) (a dx : Addr) : Hp := upd (upd H dx (exd dx [(f, v)])) a (exo a C (some dx))
structure ExAt (H : Hp) (C : Addr) (f : Str) (v : V) (a dx : Addr) : Prop where
  e : H a = some (exo a C (some dx))
  d : H dx = some (exd dx [(f, v)])
theorem exH_at {H : Hp} {C : Addr} {f : Str} {v : V} {a dx : Addr} (h : dx ≠ a) : ExAt (exH H C f v a dx) C f v a dx := ⟨upd_same, (upd_ne h).trans upd_same⟩
theorem exH_old {H : Hp} {C : Addr} {f : Str} {v : V} {a dx b : Addr} {o : HO} (ha : H a = none) (hd : H dx = none) (h : H b = some o) : exH H C f v a dx b = some o := by
  rw [exH, upd_ne (ne_of_none h ha), upd_ne (ne_of_none h hd)]
  exact h
theorem exH_over {H : Hp} {C : Addr} {f : Str} {v : V} {a dx : Addr} {o : HO} (h : dx ≠ a) : exH (upd H a o) C f v a dx = exH H C f v a dx := by
  funext b
  unfold exH upd
  by_cases e1 : b = a
  · simp [e1]
  · by_cases e2 : b = dx <;> simp [e1, e2]
/-- what the written part says of such a class -/
structure ExT (K : PySem.W.Frag) (C fI : Addr) (f : Str) : Prop where
  o : OexC K C
  x : XfC K C
  c : ExcC K C
  i : findIn K (.ref C) "__init__" = some (some (.ref fI))
  t : typeIn K (.ref fI) = some (.type "function")
  no : findIn K (.ref C) f = some none
structure ExT0 (K : PySem.W.Frag) (C fI : Addr) : Prop where
  o : OexC K C
  x : XfC K C
  c : ExcC K C
  i : findIn K (.ref C) "__init__" = some (some (.ref fI))
  t : typeIn K (.ref fI) = some (.type "function")
/-- what __init__(self, f) does: self.f = f -/
def spXI (C : Addr) (f : Str) : Sp := fun vs H Q _ => ∃ a v, vs = [.ref a, v] ∧ H a = some (exo a C none) ∧ ∀ dx, H dx = none → dx ≠ a → Q .non (exH H C f v a dx)
theorem ok_xi {P : Program} {w : World} {K : PySem.W.Frag} {mg : Str → Option Value} {base : Heap} {ql f : Str} {st : Stmt} {C fI : Addr} {fd : FuncData} {q1 q2 q3 q4 : Pos} (F : Fun K "__init__" ql st fI fd) (T : ExT K C fI f) (S : FnScope ["self", f] ["self", f] (defScope st))
    (hb : defBody st = [.Assign [.Attribute (.Name "self" q1) f q2] (.Name f q3) q4]) (hd : (f == ("__debug__" : Str)) = false) (hd2 : (f == ("__classdict__" : Str)) = false) : FnOk P w K mg base CX0 1 fI fd ["self", f] (spXI C f) := by
  have loc : ∀ y ∈ (["self", f] : List Str), Vis (defScope st) y := fun y hy => (S.par y hy).imp id .inl
  refine F.ok S (fun vs H Q E h => ?_) (fun cdv A ou s H vs Q E hr h => ?_)
  · obtain ⟨a, v, rfl, _⟩ := h
    rfl
  · obtain ⟨a, v, rfl, ha, k⟩ := h
    rw [hb]
    refine ⟨_, pss_one (ps_ost (pe_var (i := 0) rfl (loc _ (by simp))) (pe_var (i := 1) rfl (loc _ (by simp)) hd hd2)), ?_⟩
    exact ⟨_, rfl, _, rfl, a, C, rfl, T.o, T.no, .inl ⟨ha, fun dx n ne => k dx n ne⟩⟩
section
variable {X : Cx} {C fI : Addr} {f x : Str} {fd : FuncData} {p pos : Pos} {e : Expr} {te : TE} {ta : TA} {k : Nat}
/-- a new exception of one field -/
def tEx1 (C : Addr) (f : Str) (ta : TA) : TE := fun σ H Q => ta σ H fun vs H1 => ∃ v, vs = [v] ∧ ∀ a dx, H1 a = none → H1 dx = none → dx ≠ a → Q (.ref a) (exH H1 C f v a dx)
theorem run_ex {pins : List (Addr × Obj)} {σ : L2.St} {H : Hp} {s : Shared} {Q : VK} {us : List Value} {kw : List (Str × Value)} {u : Value} {v : V} (T : ExT X.K C fI f) (F : FnOk X.prog X.w X.K X.mg X.base CX0 1 fI fd ["self", f] (spXI C f)) (hr : Room 2 X.A)
    (hb : ∀ (s : Shared) (a : Value), BindsTo s fd ⟨a :: us, kw⟩ [("self", a), (f, u)]) (hl : us.length ≤ 1) (I : Inv X pins σ H s) (r : RelV v u) (h : ∀ a dx, H a = none → H dx = none → dx ≠ a → Q (.ref a) (exH H C f v a dx)) :
    wpAny (model X.prog X.w) X.A (call (.ref C) us kw) (EP X pins σ Q) X.xe s := by
  obtain ⟨nm, q, N, bs, bm, sn, sub, ab, col, dd, k0, k1, k2, k3, k5, hC, hbm⟩ := T.o.cls
  obtain ⟨hp, g, dr, tk, os⟩ := s
  have kk : ∀ b o, hp.get? b = some o → ((hp.push (PySem.W.kdv_tup us)).push (PySem.HandSPX.excO C hp.objs.size)).get? b = some o := fun b o z => Heap.get?_push_of_some _ (Heap.get?_push_of_some _ z)
  have hget : ((hp.push (PySem.W.kdv_tup us)).push (PySem.HandSPX.excO C hp.objs.size)).get? (hp.objs.size + 1) = some (PySem.HandSPX.excO C hp.objs.size) := by heap_get
  have hn : H (hp.objs.size + 1) = none := I.hok.fresh (Nat.le_succ _)
  have I2 : Inv X pins σ (upd H (hp.objs.size + 1) (exo (hp.objs.size + 1) C none)) ⟨(hp.push (PySem.W.kdv_tup us)).push (PySem.HandSPX.excO C hp.objs.size), g, dr, tk, os⟩ :=
    I.laid (t' := tk) (a := hp.objs.size + 1) (o := exo (hp.objs.size + 1) C none) kk (Nat.le_succ _) (exo_ok hget)
  have r2 : Vals [V.ref (hp.objs.size + 1), v] [Value.ref (hp.objs.size + 1), u] := .cons rfl (.cons r .nil)
  have sp : spXI C f [V.ref (hp.objs.size + 1), v] (upd H (hp.objs.size + 1) (exo (hp.objs.size + 1) C none)) (fun v2 H2 => v2 = .non ∧ Q (.ref (hp.objs.size + 1)) H2) (fun _ _ _ => False) := by
    refine ⟨_, v, rfl, upd_same, fun dx n ne => ⟨rfl, ?_⟩⟩
    rw [exH_over ne]
    refine h _ dx hn ?_ ne
    rw [upd_ne ne] at n
    exact n
  refine wpAny_call (xcall PySem.F.excBase_ValueError (fun Y => PySem.HandSPX.refsVE_contains Y bm hbm) (I.kIn _ _ hC) (PySem.W.looks_findIn I.kIn T.i) (fun self => PySem.W.bind_fn I.kIn self T.t) (Nat.le_trans hl (by decide)) ?_)
  refine codeAny_mono (F.run _ X.stack _ _ ⟨Value.ref (hp.objs.size + 1) :: us, kw⟩ [Value.ref (hp.objs.size + 1), u] _ _ (fun _ _ _ => False) (hr.make C us kw) (I2.env0.make C us kw) (hb _ _) r2 sp) ?_
  rintro (er | fl) s' hq
  · exact hq.elim
  · cases fl <;> first | exact hq.elim | skip
    obtain ⟨v2, H2, I3, rv, ev, q3⟩ := I2.after hq
    subst ev
    exact ⟨rv, ⟨V.ref (hp.objs.size + 1), H2, I3, rfl, q3⟩⟩
/-- C(e) -/
theorem pe_ex1 (T : ExT X.K C fI f) (F : FnOk X.prog X.w X.K X.mg X.base CX0 1 fI fd ["self", f] (spXI C f)) (hr : Room 2 X.A) (hb : ∀ (s : Shared) (a u : Value), BindsTo s fd ⟨[a, u], []⟩ [("self", a), (f, u)]) (hg : Gl X x) (hm : X.mg x = some (.ref C)) (ha : PE X e te)
    (hdb : (x == ("__debug__" : Str)) = false := by decide) (he : starEach (e :: []) X.env = (false, eval e X.env) :: starEach [] X.env := by rfl) (hpl : (backTo pos (starEach [] X.env)).any (·.1) = false := by rfl) : PE X (.Call (.Name x p) [e] [] pos) (tEx1 C f (tCons te tNil)) := by
  constructor
  intro pins s σ H Q I h
  apply wpAny_Call_Name_kw
  refine ld_glob I hg hm (PySem.W.callWith_K (h₀ := X.base) I.ok.mod.kin T.o.kC (thn ((pa_cons ha pa_nil he).run pos pins s σ H _ I h) ?_) he hpl) hdb
  rintro us s1 ⟨vs, H1, I1, r, v, ev, q⟩
  subst ev
  obtain ⟨u, rfl, ru⟩ := vals1 r
  exact ⟨I1.kIn, run_ex (us := [u]) (kw := []) T F hr (fun s a => hb s a u) (Nat.le_of_ble_eq_true rfl) I1 ru q⟩
/-- C(f=e) -/
theorem pe_ex1k {kpos : Pos} (T : ExT X.K C fI f) (F : FnOk X.prog X.w X.K X.mg X.base CX0 1 fI fd ["self", f] (spXI C f)) (hr : Room 2 X.A) (hb : ∀ (s : Shared) (a u : Value), BindsTo s fd ⟨[a], [(f, u)]⟩ [("self", a), (f, u)]) (hg : Gl X x) (hm : X.mg x = some (.ref C)) (ha : PE X e te)
    (hdb : (x == ("__debug__" : Str)) = false := by decide) : PE X (.Call (.Name x p) [] [⟨some f, e, kpos⟩] pos) (tEx1 C f (tCons te tNil)) := by
  constructor
  intro pins s σ H Q I h
  apply wpAny_Call_Name_kw
  refine ld_glob I hg hm (PySem.W.callWith_KW0 (h₀ := X.base) I.ok.mod.kin T.o.kC rfl (thn ((pk_cons ha pk_nil).run pos pins s σ H _ I h) ?_) rfl) hdb
  rintro us s1 ⟨vs, H1, I1, r, v, ev, q⟩
  subst ev
  obtain ⟨u, rfl, ru⟩ := vals1 r
  exact ⟨I1.kIn, run_ex (us := []) (kw := [(f, u)]) T F hr (fun s a => hb s a u) (Nat.le_of_ble_eq_true rfl) I1 ru q⟩
/-- what __init__(self): pass does -/
def spXI0 (C : Addr) : Sp := fun vs H Q _ => ∃ a, vs = [.ref a] ∧ H a = some (exo a C none) ∧ Q .non H
def tEx0 (C : Addr) : TE := fun _ H Q => ∀ a, H a = none → Q (.ref a) (upd H a (exo a C none))
/-- C() -/
theorem pe_ex0 (T : ExT0 X.K C fI) (F : FnOk X.prog X.w X.K X.mg X.base CX0 1 fI fd ["self"] (spXI0 C)) (hr : Room 2 X.A) (hb : ∀ (s : Shared) (a : Value), BindsTo s fd ⟨[a], []⟩ [("self", a)]) (hg : Gl X x) (hm : X.mg x = some (.ref C))
    (hdb : (x == ("__debug__" : Str)) = false := by decide) : PE X (.Call (.Name x p) [] [] pos) (tEx0 C) := by
  constructor
  intro pins s σ H Q I h
  apply wpAny_Call_Name_kw
  refine ld_glob I hg hm (PySem.W.callWith_K0 I.kIn T.o.kC ?_) hdb
  obtain ⟨nm, q, N, bs, bm, sn, sub, ab, col, dd, k0, k1, k2, k3, k5, hC, hbm⟩ := T.o.cls
  obtain ⟨hp, g, dr, tk, os⟩ := s
  have kk : ∀ b o, hp.get? b = some o → ((hp.push (PySem.W.kdv_tup [])).push (PySem.HandSPX.excO C hp.objs.size)).get? b = some o := fun b o z => Heap.get?_push_of_some _ (Heap.get?_push_of_some _ z)
  have hget : ((hp.push (PySem.W.kdv_tup [])).push (PySem.HandSPX.excO C hp.objs.size)).get? (hp.objs.size + 1) = some (PySem.HandSPX.excO C hp.objs.size) := by heap_get
  have I2 : Inv X pins σ (upd H (hp.objs.size + 1) (exo (hp.objs.size + 1) C none)) ⟨(hp.push (PySem.W.kdv_tup [])).push (PySem.HandSPX.excO C hp.objs.size), g, dr, tk, os⟩ :=
    I.laid (t' := tk) (a := hp.objs.size + 1) (o := exo (hp.objs.size + 1) C none) kk (Nat.le_succ _) (exo_ok hget)
  have r2 : Vals [V.ref (hp.objs.size + 1)] [Value.ref (hp.objs.size + 1)] := .cons rfl .nil
  have sp : spXI0 C [V.ref (hp.objs.size + 1)] (upd H (hp.objs.size + 1) (exo (hp.objs.size + 1) C none)) (fun v2 H2 => v2 = .non ∧ Q (.ref (hp.objs.size + 1)) H2) (fun _ _ _ => False) :=
    ⟨_, rfl, upd_same, rfl, h _ (I.hok.fresh (Nat.le_succ _))⟩
  refine wpAny_call (xcall PySem.F.excBase_ValueError (fun Y => PySem.HandSPX.refsVE_contains Y bm hbm) (I.kIn _ _ hC) (PySem.W.looks_findIn I.kIn T.i) (fun self => PySem.W.bind_fn I.kIn self T.t) (Nat.zero_le _) ?_)
  refine codeAny_mono (F.run _ X.stack _ _ ⟨[Value.ref (hp.objs.size + 1)], []⟩ [Value.ref (hp.objs.size + 1)] _ _ (fun _ _ _ => False) (hr.make C [] []) (I2.env0.make C [] []) (hb _ _) r2 sp) ?_
  rintro (er | fl) s' hq
  · exact hq.elim
  · cases fl <;> first | exact hq.elim | skip
    obtain ⟨v2, H2, I3, rv, ev, q3⟩ := I2.after hq
    subst ev
    exact ⟨rv, ⟨V.ref (hp.objs.size + 1), H2, I3, rfl, q3⟩⟩
/-- e.f, e a value that is an exception -/
def tExF (n : Str) (K : PySem.W.Frag) (te : TE) : TE := fun σ H Q => te σ H fun x H1 => ∃ C a dx f v, x = .ref a ∧ ExAt H1 C f v a dx ∧ XfC K C ∧ findIn K (.ref C) n = some none ∧ n = f ∧ Q v H1
theorem pe_exf {n : Str} (he : PE X e te) (hb : attributeBase e n X.env (eval e X.env) = eval e X.env := by rfl) : PE X (.Attribute e n pos) (tExF n X.K te) := by
  constructor
  intro pins s σ H Q I h
  refine attr_of hb (thn (he.run pins s σ H _ I h) ?_)
  rintro u s1 ⟨x, H1, I1, rx, C, a, dx, f, v, rfl, ⟨h1, h2⟩, T, no, rfl, q⟩
  cases (show u = Value.ref a from rx)
  obtain ⟨t1, ho⟩ := exo_at I1.hok h1
  obtain ⟨mA, hns, rel⟩ := exd_at I1.hok h2
  obtain ⟨od, hod, hl⟩ := lookIn_ns hns
  obtain ⟨z, hz, rz⟩ := RelO.some_of (v := v) (o := mA n) (by have := rel n; simpa [List.lookup] using this)
  exact HandSPX.exc_get I1.kIn (ox := { cls := .ref C, dict := some dx, data := .fields #[.ref t1, .none, .none, .none, .bool false, .none] }) (od := some od) ⟨ho, rfl, rfl, hod⟩ T.ga T.gg T.exC (PySem.W.findObj_own T.hdC no rfl (by rw [hl, hz])) (handed_of rz) ⟨v, H1, I1.tok _, rz, q⟩
/-- isinstance(e, c), e a value that is an exception -/
def rIsX (K : PySem.W.Frag) : List V → Hp → VK → Prop := fun xs H Q => ∃ (c : V) (cv : Value) (b : Bool) (a D : Addr) (d : Option Addr), xs = [.ref a, c] ∧ H a = some (exo a D d) ∧ (∀ dx, d = some dx → ∃ fs, H dx = some (exd dx fs)) ∧ ExcC K D ∧ ClsV c cv ∧ PySem.W.kitOne K (.ref D) cv = some b ∧ Q (.bl b) H
theorem call_isX : CallR X (.builtin "isinstance") (rIsX X.K) := by
  intro pins s σ H xs us Q I r h
  obtain ⟨c, cv, b, a, D, d, rfl, ha, hd, T, hc, e, q⟩ := h
  obtain ⟨u1, u2, rfl, r1, r2⟩ := vals2 r
  cases (show u1 = Value.ref a from r1)
  cases hc.eq r2
  obtain ⟨t1, ho⟩ := exo_at I.hok ha
  have J : ∃ ox od, PySem.W.InstAt s.heap a ox D od := by
    cases d with
    | none => exact ⟨_, none, ho, rfl, rfl, trivial⟩
    | some dx =>
      obtain ⟨fs, h2⟩ := hd dx rfl
      obtain ⟨mA, hns, _⟩ := exd_at I.hok h2
      obtain ⟨od, hod, _⟩ := lookIn_ns hns
      exact ⟨_, some od, ho, rfl, rfl, hod⟩
  exact PySem.W.kia_one (xkit T) I.kIn J e (fun z => nomatch z) fun tk => ⟨.bl b, H, I.kept (t' := tk) fun _ _ z => z, rfl, q⟩
end
/-- isinstance against an own class, a class of the library, by what is a subclass of what -/
theorem kit_sub {K : PySem.W.Frag} {C D : Addr} {b : Bool} (hd : hasDictIn K C = true) (ht : typeIn K (.ref C) = some (.type "type")) (hs : subIn K (.ref C) (.ref C) = some true) (h : subIn K (.ref D) (.ref C) = some b) : PySem.W.kitOne K (.ref D) (.ref C) = some b := by
  unfold PySem.W.kitOne
  by_cases e : D = C
  · cases e
    cases (Option.some.inj (h.symm.trans hs))
    rw [if_pos (by simp)]
  · obtain ⟨cd, hc, _⟩ := PySem.W.any_some hd
    rw [if_neg (by simpa using e), PySem.W.kitCls, hc, ht]
    exact h
theorem kit_subT {K : PySem.W.Frag} {D : Addr} {n : String} {b : Bool} (hm : PySem.W.kitMeta n = true) (h : subIn K (.ref D) (.type n) = some b) : PySem.W.kitOne K (.ref D) (.type n) = some b := by
  unfold PySem.W.kitOne
  rw [if_neg (by simp), PySem.W.kitCls, if_pos hm]
  exact h
end Rw
/-! own layer: data in heaps where only told addresses change; boxes of draws; how long data is when shown -/
namespace Rw
open PySem PySem.Spec PyProof.Rows L2

/-! ### what stays -/
/-- all that is tracked stays, but for M -/
def Kp (M : Addr → Prop) (H H' : Hp) : Prop := ∀ a o, H a = some o → ¬ M a → H' a = some o
section
variable {M M' : Addr → Prop} {H H1 H2 : Hp} {p : Addr} {o : HO}
theorem Kp.rf : Kp M H H := fun _ _ h _ => h
theorem Kp.tr (a : Kp M H H1) (b : Kp M H1 H2) : Kp M H H2 := fun x o h m => b x o (a x o h m) m
theorem Kp.nw (a : Kp M H H1) (h : H1 p = none) : Kp M H (upd H1 p o) := fun x u hx m => by
  have := a x u hx m
  rw [upd_ne (ne_of_none this h)]
  exact this
theorem Kp.wr (a : Kp M H H1) (h : M p) : Kp M H (upd H1 p o) := fun x u hx m => by
  rw [upd_ne (show x ≠ p from fun e => m (by rw [e]; exact h))]
  exact a x u hx m
/-- what was not tracked may be written -/
theorem Kp.wn (a : Kp M H H1) (h : H p = none) : Kp M H (upd H1 p o) := fun x u hx m => by
  rw [upd_ne (ne_of_none hx h)]
  exact a x u hx m
theorem Kp.mn (a : Kp M H H1) (h : ∀ x, M x → M' x) : Kp M' H H1 := fun x u hx m => a x u hx fun z => m (h x z)
theorem Kp.of (a : Same H H1) : Kp M H H1 := fun x u hx _ => a x u hx
theorem Kp.back (a : Kp M H H1) (hm : ¬ M p) (h : H1 p = none) : H p = none := by
  cases e : H p with
  | none => rfl
  | some u => rw [a p u e hm] at h; cases h
theorem Kp.sql {K : PySem.W.Frag} {xs : List V} {a : Addr} (e : Kp M H H1) (hm : ¬ M a) (h : SqL K H a xs) : SqL K H1 a xs := by
  rcases h with (h | ⟨o, h⟩) | h
  · exact .inl (.inl (e _ _ h hm))
  · exact .inl (.inr ⟨o, e _ _ h hm⟩)
  · exact .inr h
theorem Kp.sqt {K : PySem.W.Frag} {xs : List V} {a : Addr} (e : Kp M H H1) (hm : ¬ M a) (h : SqT K H a xs) : SqT K H1 a xs := by
  rcases h with (h | ⟨o, h⟩) | h
  · exact .inl (.inl (e _ _ h hm))
  · exact .inl (.inr ⟨o, e _ _ h hm⟩)
  · exact .inr h
/-- a new object is at no told place that is tracked -/
theorem nw1 {a : Addr} {u : HO} (hp : H p = none) (h : H a = some u) : p ≠ a := (ne_of_none h hp).symm
theorem nw2 {a : Addr} {u : HO} (hp : H p = none) (h : H a = some u) : a ≠ p := ne_of_none h hp
theorem nw_ne {a : Addr} {u : HO} (h : H a = some u) (hp : H p = none) : p ≠ a := (ne_of_none h hp).symm
end

theorem sz {n : Nat} (h : n ≤ 1000000) : n ≤ sizeLine := Nat.le_trans h (by decide)
theorem szl {n : Nat} (h : n ≤ 1000000) : n < sizeLine := Nat.lt_of_le_of_lt h (by decide)
theorem same_new {H : Hp} {p : Addr} {o : HO} (h : H p = none) : Same H (upd H p o) := fun b x e => by
  rw [upd_ne (ne_of_none e h)]
  exact e
theorem yes_if {σ : L2.St} {H : Hp} {A B : Bool → Hp → Prop} (h : A true H) : tYes σ H (fun b H' => if b = true then A b H' else B b H') := h
/-! ### what is walked n turns long: a comprehension, a loop -/
theorem lc_by {J : It} {n : Nat} {g : TG} {tt : TT} {te : TE} {vs : List Nat} {σ : L2.St} {H1 : Hp} {D : Addr} {Qd : Hp → Prop} (Pv : Nat → Hp → Prop) (h0 : Pv 0 (upd H1 D (.lst []))) (hgo : ∀ i H, i < n → Pv i H → J.go i H) (hst : ∀ H, Pv n H → J.stop n H)
    (hs : ∀ i x H H', i < n → Pv i H → J.yld i H x H' → g x (wipe σ vs) H' fun σ2 H2 => wipe σ2 vs = wipe σ vs ∧ tt σ2 H2 fun b H3 => if b = true then te σ2 H3 fun y H4 => ∃ acc, H4 D = some (.lst acc) ∧ acc.length < sizeLine ∧ Pv (i + 1) (upd H4 D (.lst (acc ++ [y]))) else Pv (i + 1) H3) (hd : ∀ H, Pv n H → Qd H) :
    ∃ W : Nat → Nat → Hp → Prop, (∃ m, W 0 m (upd H1 D (.lst []))) ∧ ∀ i m H, W i m H → (J.stop i H ∧ Qd H) ∨ (J.go i H ∧ ∃ Nx : Hp → Prop, (∀ H', Nx H' → ∃ m', m' < m ∧ W (i + 1) m' H') ∧ ∀ x H', J.yld i H x H' → g x (wipe σ vs) H' fun σ2 H2 => wipe σ2 vs = wipe σ vs ∧ tt σ2 H2 fun b H3 =>
      if b = true then te σ2 H3 fun y H4 => ∃ acc, H4 D = some (.lst acc) ∧ acc.length < sizeLine ∧ Nx (upd H4 D (.lst (acc ++ [y]))) else Nx H3) :=
  ⟨fun i m H => i + m = n ∧ Pv i H, ⟨n, Nat.zero_add n, h0⟩, fun i m H ⟨hm, p⟩ => by
    rcases m with _ | m
    · cases (show i = n from hm)
      exact .inl ⟨hst H p, hd H p⟩
    · exact .inr ⟨hgo i H (by omega) p, Pv (i + 1), fun H' p' => ⟨m, Nat.lt_succ_self m, by omega, p'⟩, fun x H' y => hs i x H H' (by omega) p y⟩⟩
theorem for_by {J : It} {n : Nat} {g : TG} {tb : TS} {D : Ends} {σ : L2.St} {H : Hp} (Pv : Nat → L2.St → Hp → Prop) (h0 : Pv 0 σ H) (hgo : ∀ i σ H, i < n → Pv i σ H → J.go i H) (hst : ∀ σ H, Pv n σ H → J.stop n H)
    (hs : ∀ i x σ H H', i < n → Pv i σ H → J.yld i H x H' → g x σ H' fun σ2 H2 => tb { D with nx := Pv (i + 1), ct := Pv (i + 1), bk := D.nx } σ2 H2) (hd : ∀ σ H, Pv n σ H → D.nx σ H) :
    ∃ W : Nat → Nat → L2.St → Hp → Prop, (∃ m, W 0 m σ H) ∧ ∀ i m σ H, W i m σ H → (J.stop i H ∧ D.nx σ H) ∨ (J.go i H ∧ ∃ N : L2.St → Hp → Prop, (∀ σ' H', N σ' H' → ∃ m', m' < m ∧ W (i + 1) m' σ' H') ∧ ∀ x H', J.yld i H x H' → g x σ H' fun σ2 H2 => tb { D with nx := N, ct := N, bk := D.nx } σ2 H2) :=
  ⟨fun i m σ H => i + m = n ∧ Pv i σ H, ⟨n, Nat.zero_add n, h0⟩, fun i m σ H ⟨hm, p⟩ => by
    rcases m with _ | m
    · cases (show i = n from hm)
      exact .inl ⟨hst σ H p, hd σ H p⟩
    · exact .inr ⟨hgo i σ H (by omega) p, Pv (i + 1), fun σ' H' p' => ⟨m, Nat.lt_succ_self m, by omega, p'⟩, fun x H' y => hs i x σ H H' (by omega) p y⟩⟩
theorem idL {K : PySem.W.Frag} {H : Hp} {a : Addr} {xs : List V} (h : SqL K H a xs) : SqL K H a xs := h
theorem idT {K : PySem.W.Frag} {H : Hp} {a : Addr} {xs : List V} (h : SqT K H a xs) : SqT K H a xs := h
/-! ### data -/
mutual
inductive Dm (M : Addr → Prop) (H : Hp) : V → PyData → Prop
  | non : Dm M H .non .none
  | bl (b : Bool) : Dm M H (.bl b) (.bool b)
  | int (i : Int) : Dm M H (.int i) (.int i)
  | str (x : Str) : Dm M H (.str x) (.str x)
  | lst {a : Addr} {xs : List V} {ds : List PyData} : ¬ M a → H a = some (.lst xs) → DmAll M H xs ds → Dm M H (.ref a) (.list ds)
  | tup {a : Addr} {xs : List V} {ds : List PyData} : ¬ M a → H a = some (.tup xs) → DmAll M H xs ds → Dm M H (.ref a) (.tuple ds)
inductive DmAll (M : Addr → Prop) (H : Hp) : List V → List PyData → Prop
  | nil : DmAll M H [] []
  | cons {v : V} {vs : List V} {d : PyData} {ds : List PyData} : Dm M H v d → DmAll M H vs ds → DmAll M H (v :: vs) (d :: ds)
end
section
variable {M M' : Addr → Prop} {H H' : Hp}
mutual
theorem Dm.mv (k : ∀ a o, H a = some o → ¬ M a → H' a = some o ∧ ¬ M' a) : ∀ (d : PyData) (v : V), Dm M H v d → Dm M' H' v d
  | .none, _, h => by cases h; exact .non
  | .bool _, _, h => by cases h; exact .bl _
  | .int _, _, h => by cases h; exact .int _
  | .str _, _, h => by cases h; exact .str _
  | .list ds, _, h => by
    cases h with
    | lst hm ha hs => exact .lst (k _ _ ha hm).2 (k _ _ ha hm).1 (DmAll.mv k ds _ hs)
  | .tuple ds, _, h => by
    cases h with
    | tup hm ha hs => exact .tup (k _ _ ha hm).2 (k _ _ ha hm).1 (DmAll.mv k ds _ hs)
  | .dict _, _, h => nomatch h
theorem DmAll.mv (k : ∀ a o, H a = some o → ¬ M a → H' a = some o ∧ ¬ M' a) : ∀ (ds : List PyData) (vs : List V), DmAll M H vs ds → DmAll M' H' vs ds
  | [], _, h => by cases h; exact .nil
  | d :: ds, _, h => by
    cases h with
    | cons h1 h2 => exact .cons (Dm.mv k d _ h1) (DmAll.mv k ds _ h2)
end
theorem Dm.kp {d : PyData} {v : V} (h : Dm M H v d) (k : Kp M H H') : Dm M H' v d := Dm.mv (fun a o e m => ⟨k a o e m, m⟩) d v h
theorem DmAll.kp {ds : List PyData} {vs : List V} (h : DmAll M H vs ds) (k : Kp M H H') : DmAll M H' vs ds := DmAll.mv (fun a o e m => ⟨k a o e m, m⟩) ds vs h
/-- other places may change from now on, where nothing of it is -/
theorem Dm.wd {d : PyData} {v : V} (h : Dm M H v d) (k : ∀ a o, H a = some o → ¬ M a → ¬ M' a) : Dm M' H v d := Dm.mv (fun a o e m => ⟨e, k a o e m⟩) d v h
variable {K : PySem.W.Frag}
mutual
theorem Dm.dp' : ∀ (d : PyData) (v : V), Dm M H v d → Dp K H v d
  | .none, _, h => by cases h; exact .non
  | .bool _, _, h => by cases h; exact .bl _
  | .int _, _, h => by cases h; exact .int _
  | .str _, _, h => by cases h; exact .str _
  | .list ds, _, h => by
    cases h with
    | lst hm ha hs => exact .lst (SqL.of ha) (DmAll.dp' ds _ hs)
  | .tuple ds, _, h => by
    cases h with
    | tup hm ha hs => exact .tup (SqT.of ha) (DmAll.dp' ds _ hs)
  | .dict _, _, h => nomatch h
theorem DmAll.dp' : ∀ (ds : List PyData) (vs : List V), DmAll M H vs ds → DpAll K H vs ds
  | [], _, h => by cases h; exact .nil
  | d :: ds, _, h => by
    cases h with
    | cons h1 h2 => exact .cons (Dm.dp' d _ h1) (DmAll.dp' ds _ h2)
end
theorem Dm.dp {d : PyData} {v : V} (h : Dm M H v d) : Dp K H v d := Dm.dp' d v h
theorem DmAll.len : ∀ {vs : List V} {ds : List PyData}, DmAll M H vs ds → vs.length = ds.length
  | [], _, h => by cases h; rfl
  | v :: vs, _, h => by
    cases h with
    | cons h1 h2 => rw [List.length_cons, List.length_cons, DmAll.len h2]
theorem DmAll.app : ∀ {vs ws : List V} {ds es : List PyData}, DmAll M H vs ds → DmAll M H ws es → DmAll M H (vs ++ ws) (ds ++ es)
  | [], _, _, _, h, h' => by cases h; exact h'
  | v :: vs, _, _, _, h, h' => by
    cases h with
    | cons h1 h2 => exact .cons h1 (DmAll.app h2 h')
end

/-! ### how long it is when shown -/
theorem listText_le : ∀ ts : List Str, (listText ts).length ≤ piled ts + 2
  | [] => Nat.le_of_eq rfl
  | t :: r => by
    have e : (listText (t :: r)).length = (textFrom 1 (("[" : Str) ++ ("" : Str) ++ t) r).length + ("]" : Str).length := strLen_append _ _
    rw [e, textFrom_length_pos r 1 _ (by decide), strLen_append, strLen_append, piled_cons]
    show 1 + 0 + t.length + piled r + 1 ≤ _
    omega
theorem tupleText_le (ts : List Str) : (tupleText ts).length ≤ piled ts + 3 := by
  have e : (tupleText ts).length = (("(" : Str) ++ Str.join ", " ts).length + (((if ts.length == 1 then ",)" else ")" : String) : Str)).length := strLen_append _ _
  rw [e, strLen_append]
  have l : ((((if ts.length == 1 then ",)" else ")" : String) : Str)).length) ≤ 2 := by split <;> decide
  have l1 : ("(" : Str).length = 1 := rfl
  cases ts with
  | nil => have : (Str.join ", " ([] : List Str)).length = 0 := rfl; omega
  | cons t r => have := join_length_add (t :: r) (by simp); omega
/-- data that can be shown, so deep and so long at most -/
structure Sb (d : PyData) (dp ln : Nat) : Prop where
  s : d.showable = true
  n : d.hasDict = false
  p : d.depth ≤ dp
  l : d.shown.length ≤ ln
theorem Sb.up {d : PyData} {p q l m : Nat} (h : Sb d p l) (hp : p ≤ q) (hl : l ≤ m) : Sb d q m := ⟨h.s, h.n, Nat.le_trans h.p hp, Nat.le_trans h.l hl⟩
theorem Sb.w {d : PyData} {p l : Nat} (h : Sb d p l) (hp : p ≤ 60) (hl : l ≤ 16777216) : Shw d := ⟨h.s, h.n, Nat.le_trans h.p hp, Nat.le_trans h.l (by rw [sizeLine_eq]; exact hl)⟩
theorem sb_all {p l : Nat} : ∀ {ds : List PyData}, (∀ d ∈ ds, Sb d p l) → PyData.showableAll ds = true ∧ PyData.hasDictAll ds = false ∧ PyData.depthAll ds ≤ p ∧ piled (PyData.shownAll ds) ≤ (l + 2) * ds.length
  | [], _ => ⟨rfl, rfl, Nat.zero_le _, Nat.zero_le _⟩
  | d :: ds, h => by
    obtain ⟨h1, h2, h3, h4⟩ := sb_all fun e he => h e (List.mem_cons_of_mem _ he)
    have hd := h d List.mem_cons_self
    have hp := hd.p
    have hl := hd.l
    refine ⟨?_, ?_, ?_, ?_⟩
    · simp [PyData.showableAll, hd.s, h1]
    · simp [PyData.hasDictAll, hd.n, h2]
    · simp only [PyData.depthAll]
      omega
    · simp only [PyData.shownAll, piled_cons, List.length_cons, Nat.mul_add]
      omega
theorem sb_list {ds : List PyData} {p l : Nat} (h : ∀ d ∈ ds, Sb d p l) : Sb (.list ds) (p + 1) ((l + 2) * ds.length + 2) := by
  obtain ⟨h1, h2, h3, h4⟩ := sb_all h
  refine ⟨by simpa [PyData.showable] using h1, by simpa [PyData.hasDict] using h2, by simp only [PyData.depth]; omega, ?_⟩
  simp only [PyData.shown]
  exact Nat.le_trans (listText_le _) (by omega)
theorem sb_tuple {ds : List PyData} {p l : Nat} (h : ∀ d ∈ ds, Sb d p l) : Sb (.tuple ds) (p + 1) ((l + 2) * ds.length + 3) := by
  obtain ⟨h1, h2, h3, h4⟩ := sb_all h
  refine ⟨by simpa [PyData.showable] using h1, by simpa [PyData.hasDict] using h2, by simp only [PyData.depth]; omega, ?_⟩
  simp only [PyData.shown]
  exact Nat.le_trans (tupleText_le _) (by omega)
theorem sb_none : Sb .none 1 5 := ⟨rfl, rfl, by decide, by decide⟩
theorem sb_bool (b : Bool) : Sb (.bool b) 1 5 := by cases b <;> exact ⟨rfl, rfl, by decide, by decide⟩

/-- what is tracked: data of which nothing is so is new -/
def New (H : Hp) : Addr → Prop := fun a => H a ≠ none
theorem new_of {H : Hp} {a : Addr} (h : H a = none) : ¬ New H a := fun z => z h
theorem Kp.new {H H1 : Hp} {b : Addr} (k : Kp (· = b) H H1) (hb : New H1 b) {a : Addr} (h : ¬ New H1 a) : ¬ New H a := fun z => by
  by_cases e : a = b
  · rw [e] at h
    exact h hb
  · cases q : H a with
    | none => exact z q
    | some o => exact h (by rw [New, k a o q e]; exact fun y => nomatch y)
theorem Bx.new {H : Hp} {b : Addr} (h : ∃ w s c : Int, H b = some (.lst [.int w, .int s, .int c])) : New H b := by
  obtain ⟨_, _, _, e⟩ := h
  rw [New, e]
  exact fun y => nomatch y
/-! ### the source of draws: a list of three ints at b -/
def Bx (H : Hp) (b : Addr) : Prop := ∃ w s c : Int, H b = some (.lst [.int w, .int s, .int c])
/-- the script, which no one writes: a list of xs at a -/
def Scr (K : PySem.W.Frag) (H : Hp) (a : Addr) (xs : List V) : Prop := (∃ o, H a = some (.frz o (.lst xs))) ∨ (∀ H', SqL K H' a xs)
theorem Scr.sq {K : PySem.W.Frag} {H : Hp} {a : Addr} {xs : List V} (h : Scr K H a xs) : SqL K H a xs := by
  rcases h with ⟨o, h⟩ | h
  · exact .inl (.inr ⟨o, h⟩)
  · exact h H
theorem Scr.kp {K : PySem.W.Frag} {H H' : Hp} {a b : Addr} {xs : List V} (h : Scr K H a xs) (hb : Bx H b) (k : Kp (· = b) H H') : Scr K H' a xs := by
  rcases h with ⟨o, h⟩ | h
  · refine .inl ⟨o, k _ _ h fun e => ?_⟩
    obtain ⟨_, _, _, z⟩ := hb
    rw [e, z] at h
    cases h
  · exact .inr h
theorem Scr.same {K : PySem.W.Frag} {H H' : Hp} {a : Addr} {xs : List V} (h : Scr K H a xs) (k : Same H H') : Scr K H' a xs := by
  rcases h with ⟨o, h⟩ | h
  · exact .inl ⟨o, k _ _ h⟩
  · exact .inr h
theorem scr_of {K : PySem.W.Frag} {H : Hp} {a : Addr} {xs : List V} (ho : Only H) (h : SqL K H a xs) : Scr K H a xs := by
  rcases h with (h | ⟨o, h⟩) | h
  · rcases ho a with e | ⟨o, ys, e⟩
    · rw [e] at h; cases h
    · rw [e] at h; cases h
  · exact .inl ⟨o, h⟩
  · exact .inr fun H' => .inr h
theorem Bx.same {H H' : Hp} {b : Addr} (h : Bx H b) (k : Same H H') : Bx H' b := let ⟨w, s, c, e⟩ := h; ⟨w, s, c, k _ _ e⟩
/-- a law's promise: True, whatever the script -/
def spLaw (K : PySem.W.Frag) : Sp := fun vs H Q _ => ∃ (a : Addr) (ns : List Int), vs = [.ref a] ∧ Scr K H a (ns.map V.int) ∧ ns.length ≤ 63 ∧ ∀ H', Q (.bl true) H'
theorem sp_start (K : PySem.W.Frag) (H : Hp) (a : Addr) (ns : List Int) (hl : ns.length ≤ 63) (ho : Only H) (hs : SqL K H a (ns.map V.int)) : spLaw K [.ref a] H (fun v _ => v = .bl true) fun _ _ _ => False := ⟨a, ns, rfl, scr_of ho hs, hl, fun _ => rfl⟩
/-- a draw below m -/
def spTake : Sp := fun vs H Q _ => ∃ (b : Addr) (m : Int), vs = [.ref b, .int m] ∧ 0 < m ∧ m < 1073741824 ∧ Bx H b ∧ ∀ (r : Int) (H' : Hp), 0 ≤ r → r < m → Bx H' b → Kp (· = b) H H' → Q (.int r) H'
/-- how long any value is when shown -/
def anyLn : Nat → Nat
  | 0 => 20
  | k + 1 => (anyLn k + 2) * 2 + 3
theorem anyLn_ge : ∀ k : Nat, 20 ≤ anyLn k
  | 0 => Nat.le_refl _
  | k + 1 => by have := anyLn_ge k; unfold anyLn; omega
/-- any value, nested so deep at most: all of it is new -/
def spAny (k : Nat) : Sp := fun vs H Q _ => ∃ (b : Addr) (n : Int), vs = [.ref b, .int n] ∧ n ≤ k ∧ Bx H b ∧ ∀ (v : V) (d : PyData) (H' : Hp), Dm (New H) H' v d → Sb d (k + 2) (anyLn k) → Bx H' b → Kp (· = b) H H' → Q v H'
def spAnyR : Nat → Sp
  | 0 => fun _ _ _ _ => False
  | k + 1 => spAny k
/-- one of some things, a list of them at a -/
def spPick (K : PySem.W.Frag) : Sp := fun vs H Q _ => ∃ (b a : Addr) (xs : List V), vs = [.ref b, .ref a] ∧ SqL K H a xs ∧ a ≠ b ∧ 0 < xs.length ∧ xs.length < 1000000 ∧ Bx H b ∧ ∀ (v : V) (H' : Hp), v ∈ xs → Bx H' b → Kp (· = b) H H' → Q v H'
/-- cell k's source -/
def spBox (K : PySem.W.Frag) : Sp := fun vs H Q _ => ∃ (a : Addr) (ns : List Int) (k : Int), vs = [.ref a, .int k] ∧ SqL K H a (ns.map V.int) ∧ ns.length ≤ 63 ∧ 0 ≤ k ∧ k < 1000 ∧ ∀ (b : Addr) (H' : Hp), H b = none → Bx H' b → Same H H' → Q (.ref b) H'
end Rw
/-! own layer: set(l) of a list or a tuple of ints, as a value -/
namespace Rw
open PySem PySem.Spec PySem.Calls PyProof.Rows L2
section
variable {P : Program} {w : World} {A : Around} {E : Value → Shared → Prop} {s : Shared}
abbrev newSet (w : World) : Obj := { cls := .type "set", dict := none, data := .set #[] 0 (.fresh 0 0 (!w.params.followText "set-order")) }
/-- S.__init__(l) -/
theorem init_lst {l S : Addr} {items : Array Value} (ns : List Int) {R : Result → Shared → Prop} (hh : A.handled = none) (hl : s.heap.IsList l items) (hit : IntsAre items.toList ns) (hb : ns.length + 1 < scanBound) (hS : s.heap.get? S = some (newSet w)) (hne : S ≠ l)
    (hq : ∀ (h' : Heap) (tk c : Nat), SetR w h' S (fun j => decide (j ∈ ns)) c → c ≤ ns.length → (∀ b o, b ≠ S → s.heap.get? b = some o → h'.get? b = some o) → R (.ok (.ret .none)) { s with heap := h', toks := tk }) :
    codeAny (model P w) A (.call (.builtin "set.__init__") ⟨[.ref S, .ref l], []⟩) R s := by
  have hisz : items.size = ns.length := by rw [← Array.length_toList, IntsAre.length hit]
  have hT : s.TypeIs (.ref S) "set" := ⟨_, hS, rfl⟩
  refine codeAny_call_builtin F.called_set.init.plain F.entry_set_init (check_set_init_1 hT ?_)
  obtain ⟨ol, hol, hcl, nl, hdl⟩ := id hl
  obtain ⟨ocls, odict, odata, oslots⟩ := ol
  cases hcl
  cases hdl
  have sub1 := F.sub_list_set
  have sub2 := F.sub_list_frozenset
  have nodict : (Value.type "list" == Value.type "dict") = false := by decide
  unfold Builtin.«set.__init__» noKeywords Builtin.Frozenset.updateFrom
  generalize hPI : pyIter = PI
  wp_walk
  subst hPI
  have hI : S < s.heap.objs.size := Heap.lt_size hS
  have hlI : l < s.heap.objs.size := Heap.lt_size hol
  refine wpAny_pyIter_list hl ?_
  refine wpAny_bind (wpAny_runValue ?_)
  have away : S ∉ [s.heap.objs.size, l] := fun z => by
    rcases List.mem_cons.mp z with e | e
    · exact Nat.ne_of_lt hI e
    · exact hne (List.mem_singleton.mp e)
  have each : ∀ (i : Nat) (v : Value), items[i]? = some v → ∃ k t, ns[i]? = some k ∧ v = .int k t := fun i v hv => by
    have hi : i < ns.length := hisz ▸ (Array.getElem?_eq_some_iff.mp hv).1
    obtain ⟨t, e⟩ := IntsAre.int_at hit i v (by rw [Array.getElem?_toList]; exact hv)
    rw [List.getD_eq_getElem?_getD, List.getElem?_eq_getElem hi] at e
    exact ⟨_, t, List.getElem?_eq_getElem hi, e⟩
  have quiet : A.in1.in1.handled = none := by simp [hh]
  refine set_update_ints ((Walks.list (by simpa using quiet) s.heap.objs.size l (Nat.ne_of_lt hlI) items).toS) S away ns hisz hb each (items.size - 0) 0 _ (by omega) (Nat.zero_le _) ⟨⟨_, Heap.get?_push_size _ rfl, rfl, rfl⟩, hl.push _⟩ ⟨0, Nat.le_refl 0, setR_new_at (Heap.get?_push_of_some _ hS)⟩ fun s' c hm hc R1 => ?_
  obtain ⟨h', g2, d', tk', os'⟩ := s'
  cases (show g2 = s.gens from hm.gens)
  cases (show d' = s.drawn from hm.drawn)
  cases (show os' = s.os from hm.os)
  refine wpAny_pure ?_
  show wpAny _ _ (ret Value.none) _ _ _
  refine wpAny_pure (hq h' tk' c R1 (hisz ▸ hc) fun b o hbS e => ?_)
  refine hm.heap b o (fun z => ?_) (Heap.get?_push_of_some _ e)
  rcases List.mem_cons.mp z with e2 | e2
  · exact hbS e2
  · exact Nat.ne_of_lt (Heap.lt_size e) (List.mem_singleton.mp e2)
/-- set(l), l a list of ints -/
theorem set_lst {l : Addr} {items : Array Value} (ns : List Int) {Q : Value → Shared → Prop} (hh : A.handled = none) (hl : s.heap.IsList l items) (hit : IntsAre items.toList ns) (hb : ns.length + 1 < scanBound)
    (h : ∀ (h' : Heap) (tk c : Nat), SetR w h' s.heap.objs.size (fun j => decide (j ∈ ns)) c → c ≤ ns.length → (∀ b o, s.heap.get? b = some o → h'.get? b = some o) → Q (.ref s.heap.objs.size) { s with heap := h', toks := tk }) :
    wpAny (model P w) A (call (.type "set") [.ref l]) Q E s := by
  have C := F.called_set
  obtain ⟨c0, tl, hmro⟩ := C.mro
  have f1 := C.made
  have f2 := C.sub
  have f3 := C.notType
  have f4 := C.canCreate
  have f5 := F.typeCall_set_1 (.ref l)
  refine wpAny_call (codeAny_of_tree (wpAny_pure ⟨Code.quiet_builtin _ (by decide +kernel), codeAny_builtin F.entry_type_call ?_⟩))
  rw [Around.under_plain (weight_type_call_type "set" [.ref l] []) rfl]
  repeat (any_goals (first | assumption | wp_step))
  refine codeAny_mono (code_set_led1 (.ref l) (E := E) (Q₁ := fun v s1 => v = .ref s.heap.objs.size ∧ s1 = { s with heap := s.heap.push (newSet w) }) ⟨rfl, rfl⟩) ?_
  rintro (e | fl) s1 z
  · exact z
  · cases fl <;> first | exact z.elim | skip
    obtain ⟨rfl, rfl⟩ := z
    have g1 : (s.heap.push (newSet w)).get? s.heap.objs.size = some (newSet w) := Heap.get?_push_size _ rfl
    have g2 : Shared.TypeIs { s with heap := s.heap.push (newSet w) } (.ref s.heap.objs.size) "set" := ⟨_, g1, rfl⟩
    have g3 := C.init.lookup
    have g4 := C.init.bind (.ref s.heap.objs.size)
    repeat (any_goals (first | assumption | wp_step))
    refine init_lst (s := { s with heap := s.heap.push (newSet w) }) ns (by simp [hh]) (hl.push _) hit hb g1 ?_ fun h' tk c R1 hc k => ?_
    · obtain ⟨o, ho, _⟩ := hl
      exact (Nat.ne_of_lt (Heap.lt_size ho)).symm
    · show wpAny _ _ (pure _) _ _ _
      repeat (any_goals (first | assumption | wp_step))
      exact h h' tk c R1 hc fun b o e => k b o (Nat.ne_of_lt (Heap.lt_size e)) (Heap.get?_push_of_some _ e)
/-- set(l) of a list or a tuple of ints: a new set of them -/
def rSetI (K : PySem.W.Frag) (w : World) : List V → Hp → VK → Prop := fun xs H Q => ∃ (p : Addr) (ns : List Int), xs = [.ref p] ∧ (SqL K H p (ns.map V.int) ∨ SqT K H p (ns.map V.int)) ∧ ns.length ≤ 1000 ∧
  ∀ (a : Addr) (n : Nat), H a = none → n ≤ ns.length → Q (.ref a) (upd H a (SetO w a (fun j => decide (j ∈ ns)) n))
theorem call_setI {X : Cx} (hc : X.calm = true) : CallR X (.type "set") (rSetI X.K X.w) := by
  intro pins s σ H vs us Q I r h
  obtain ⟨p, ns, rfl, hs, hn, q⟩ := h
  rw [Vals.ref1 r]
  have hb : ns.length + 1 < scanBound := by unfold scanBound; omega
  have fin : ∀ (h' : Heap) (tk c : Nat), SetR X.w h' s.heap.objs.size (fun j => decide (j ∈ ns)) c → c ≤ ns.length → (∀ b o, s.heap.get? b = some o → h'.get? b = some o) → EP X pins σ Q (.ref s.heap.objs.size) { s with heap := h', toks := tk } :=
    fun h' tk c R1 hc k => ⟨.ref _, upd H s.heap.objs.size (SetO X.w s.heap.objs.size (fun j => decide (j ∈ ns)) c), I.laid (t' := tk) k (Nat.le_refl _) (setO_new R1), rfl, q _ c (I.hok.fresh (Nat.le_refl _)) hc⟩
  rcases hs with hs | hs
  · obtain ⟨its, rv, pl, _⟩ := I.list hs
    exact set_lst ns (I.ok.hd hc) pl.isList (ints_of_vals rv) hb fin
  · obtain ⟨its, rv, pt, _⟩ := I.tuple hs
    exact call_set_tupI ns (I.ok.hd hc) (show s.heap.IsTuple p its.toArray from pt) (ints_of_vals rv) hb fin
end
end Rw
/-! own layer: `a, *b = t`, `xs[::-1]`, sorted of data of any length -/
namespace Rw
open PySem PySem.Spec PySem.Calls PyProof.Rows L2
section
variable {prog : Program} {w : World} {A : Around} {E : Value → Shared → Prop} {s : Shared}
theorem walks_tail {I : Addr} {fp wr : List Addr} {G : Array GenState → Array GenState → Prop} {n : Nat} {P : Nat → Value → Prop} {St : Nat → Shared → Prop} (W : WalksS prog w A I fp wr G (n + 1) P St) :
    WalksS prog w A I fp wr G n (fun i => P (i + 1)) (fun i => St (i + 1)) where
  sub := W.sub
  grefl := W.grefl
  gtrans := W.gtrans
  frame := fun i => W.frame (i + 1)
  item := fun i s Q E hi => W.item (i + 1) s Q E (by omega)
  done := W.done
  self := fun i => W.self (i + 1)
theorem unpack_star {t : Addr} {items : Array Value} {Q : List Value → Shared → Prop} {x : Value} {r : List Value} (hh : A.handled = none) (ht : IsTup s.heap t items) (hx : items.toList = x :: r) (hz : items.size ≤ sizeLine)
    (hQ : ∀ (h1 : Heap) (tk : Nat), (∀ b o, s.heap.get? b = some o → h1.get? b = some o) → Q [x, .ref h1.objs.size] { s with heap := h1.push { cls := .type "list", data := .seq r.toArray }, toks := tk }) :
    wpAny (model prog w) A (unpackItems (.ref t) 2 (some 1)) Q E s := by
  have hlt : t ≠ s.heap.objs.size := by obtain ⟨o, ho, _⟩ := ht; exact Nat.ne_of_lt (Heap.lt_size ho)
  have hn : items.size = r.length + 1 := by rw [← Array.length_toList, hx]; rfl
  unfold unpackItems
  refine wpAny_bind ?_
  unfold notIterableAtAll
  refine wpAny_bind (wpAny_specialOf ht.typeIs slot_tuple_iter.lookup ?_)
  refine wpAny_pure ?_
  simp only [Bool.false_eq_true, if_false]
  refine wpAny_bind (wpAny_holding (iter_tuple ht ?_))
  refine wpAny_bind (wpAny_holding (draw_tuple hlt 1 0 _ _ ⟨_, Heap.get?_push_size _ rfl, rfl, rfl⟩ (ht.push _) (by omega) fun h₁ hit₁ hs₁ => ?_))
  have ht₁ : IsTup h₁ t items := (ht.push _).extBut hs₁.extBut hlt
  have k1 : ∀ b o, s.heap.get? b = some o → h₁.get? b = some o := fun b o e => hs₁.extBut b o (Nat.ne_of_lt (Heap.lt_size e)) (Heap.get?_push_of_some _ e)
  have e1 : List.take 1 (List.drop 0 items.toList) = [x] := by rw [hx]; rfl
  rw [e1]
  rw [if_neg (by simp)]
  refine wpAny_bind (wpAny_holding ?_)
  have quiet : A.in1.in1.handled = none := by simp [hh]
  have W := Walks.tuple (prog := prog) (w := w) (A := A.in1) (by simp [hh]) s.heap.objs.size t hlt items
  rw [hn] at W
  have hI : s.heap.objs.size < h₁.objs.size := by
    obtain ⟨o, ho, _⟩ := hit₁
    exact Heap.lt_size ho
  have hT : t < h₁.objs.size := ht₁.lt
  refine wpAny_collect_iter (T := "tuple_iterator") (.inr (.inr (.inr rfl))) (walks_tail W.toS) (fun i s' st => ?_) ⟨hit₁, ht₁⟩ (fun b hb => ?_) (by simp) (fun s' acc hm hacc => ?_) (by omega)
  · obtain ⟨⟨o, ho, hc, _⟩, _⟩ := st
    exact ⟨o, ho, hc⟩
  · simp only [List.mem_cons, List.not_mem_nil, or_false] at hb
    rcases hb with rfl | rfl <;> assumption
  have ea : acc.toList = r := by
    apply List.ext_getElem?
    intro j
    rw [Array.getElem?_toList]
    by_cases hj : j < r.length
    · have hja : j < acc.size := by rw [hacc.1]; exact hj
      have q := hacc.2 j acc[j] (by simp [hja])
      have q2 : items[j + 1]? = some acc[j] := q
      rw [Array.getElem?_eq_getElem hja, ← q2, ← Array.getElem?_toList, hx]
      rfl
    · rw [List.getElem?_eq_none (by omega), Array.getElem?_eq_none (by rw [hacc.1]; omega)]
  rw [ea]
  obtain ⟨h', g2, d', tk', os'⟩ := s'
  cases (show g2 = s.gens from hm.gens)
  cases (show d' = s.drawn from hm.drawn)
  cases (show os' = s.os from hm.os)
  have k2 : ∀ b o, s.heap.get? b = some o → h'.get? b = some o := fun b o e => hm.heap b o (fun z => Nat.ne_of_lt (Heap.lt_size e) (List.mem_singleton.mp z)) (k1 b o e)
  simp only [show 2 - 1 - 1 = 0 from rfl, Nat.not_lt_zero, if_false, Nat.sub_zero, List.take_length, List.drop_length, List.append_nil]
  show wpAny _ _ (newList r >>= _) _ _ _
  refine wpAny_bind (wpAny_newObj_type ?_ (show (r.toArray).size ≤ sizeLine by rw [List.size_toArray]; omega))
  exact wpAny_pure (hQ h' tk' k2)
end
/-- a, *b = t: t a tuple with an item at least -/
def gStar (K : PySem.W.Frag) (g1 g2 : TG) : TG := fun v σ H Q => ∃ a x r, v = .ref a ∧ SqT K H a (x :: r) ∧ ∀ p, H p = none → g1 x σ (upd H p (.lst r)) fun σ' H' => g2 (.ref p) σ' H' Q
section
variable {X : Cx} {pos p2 : Pos} {k : Nat}
theorem pg_star {e1 e2 : Expr} {g1 g2 : TG} (hc : X.calm = true) (h1 : PG X e1 g1) (h2 : PG X e2 g2)
    (ha : assignEach [e1, .Starred e2 p2] X.env = [(false, assign e1 X.env), (true, assign e2 X.env)] := by rfl) : PG X (.Tuple [e1, .Starred e2 p2] k pos) (gStar X.K g1 g2) := by
  refine ⟨fun pins s σ H v u Q I r hw => ?_⟩
  obtain ⟨a, x, xs, e1, hq, hw⟩ := hw
  subst e1
  cases r
  obtain ⟨its, rv, ht, hz⟩ := I.tuple hq
  cases rv with
  | cons rx rr =>
    rw [assign_Tuple]
    refine wpAny_bind (wpAny_standAt ?_)
    unfold unpack
    rw [ha]
    refine wpAny_bind (wpAny_holding (unpack_star (I.ok.hd hc) ht rfl (by simpa [rr.length] using hz) fun h' tk kp => ?_))
    have I1 : Inv X pins σ H { s with heap := h', toks := tk } := I.kept (t' := tk) kp
    have I2 := I1.laid (t' := tk) (o := .lst xs) (fun b ob q => Heap.get?_push_of_some { cls := .type "list", data := .seq (List.toArray _) } q) (Nat.le_refl _) ⟨(by simp at hz; omega), _, 0, rr, Heap.get?_push_size _ rfl⟩
    have fr : H h'.objs.size = none := I1.hok.fresh (Nat.le_refl _)
    show wpAny _ _ (assignInOrder [assign _ X.env, assign _ X.env] _) _ _ _
    refine assignInOrder_cons (thn (h1.run pins _ σ _ x _ _ I2 rx (hw _ fr)) fun _ s1 ⟨σ1, H1, I3, q1⟩ => ?_)
    refine assignInOrder_cons (thn (h2.run pins s1 σ1 H1 (.ref _) (.ref _) _ I3 rfl q1) fun _ s2 ⟨σ2, H2, I4, q2⟩ => ?_)
    exact assignInOrder_nil ⟨σ2, H2, I4, q2⟩
/-- xs[::-1] of a list -/
def tRev (K : PySem.W.Frag) (te ts : TE) : TE := fun σ H Q => te σ H fun x H1 => ts σ H1 fun k H2 => ∃ a xs, k = .int (-1) ∧ x = .ref a ∧ SqL K H2 a xs ∧ ∀ p, H2 p = none → Q (.ref p) (upd H2 p (.lst xs.reverse))
theorem Vals.reverse : ∀ {xs : List V} {us : List Value}, Vals xs us → Vals xs.reverse us.reverse
  | _, _, .nil => .nil
  | _, _, .cons r t => by
    rw [List.reverse_cons, List.reverse_cons]
    exact (Vals.reverse t).append (.cons r .nil)
theorem pe_rev {e st : Expr} {te ts : TE} (he : PE X e te) (hs : PE X st ts) : PE X (.Subscript e (.Slice none none (some st) p2) pos) (tRev X.K te ts) := by
  refine ⟨fun pins s σ H Q I h => ?_⟩
  refine Subscript_ (thn (he.run pins s σ H _ I h) fun v s1 ⟨x, H1, I1, r1, q1⟩ => ?_)
  refine wpAny_Slice ?_
  rw [evalPart_none]
  refine wpAny_pure ?_
  refine wpAny_pure ?_
  rw [evalPart_some]
  refine thn (hs.run pins s1 σ H1 _ I1 q1) fun vk s3 ⟨kk, H3, I3, rk, q3⟩ => ?_
  obtain ⟨a, xs, rfl, rfl, hx, q⟩ := q3
  obtain ⟨tk, rfl⟩ := rk
  cases r1
  have I4 : Inv X pins σ H3 { s3 with heap := s3.heap.push { cls := .type "slice", data := .fields #[.none, .none, .int (-1) tk] } } := I3.kept (t' := s3.toks) fun b ob q => Heap.get?_push_of_some _ q
  obtain ⟨its, r, ht, hz⟩ := I4.list hx
  have hlen := r.length
  refine tail_any (ops := [.ref a, .ref s3.heap.objs.size]) ht.isList.typeIs slot_list_getitem.lookup ?_ (by with_unfolding_all rfl)
  refine wpAny_getItem_list_slice ht.isList (Heap.IsSliceOf.new ..) .none .none (.int _ _) (by simp) ?_ (by rw [List.size_toArray]; omega)
  rw [show slicePick its.toArray none none (some (-1)) = its.reverse.toArray from by rw [PySem.W.krv_pick]]
  refine ⟨.ref _, _, I4.laid (t' := s3.toks) (o := .lst xs.reverse) (fun b ob q => Heap.get?_push_of_some _ q) (Nat.le_refl _) ?_, rfl, q _ (I4.hok.fresh (Nat.le_refl _))⟩
  exact ⟨by rw [List.length_reverse]; exact hz, _, 0, Vals.reverse r, Heap.get?_push_size _ rfl⟩
end
/-! ### sorted of data -/
/-- sorted(xs): each item reads as the datum beside it -/
def rSortD (K : PySem.W.Frag) : List V → Hp → VK → Prop := fun vs H Q => ∃ (a : Addr) (zs : List (V × PyData)), vs = [.ref a] ∧ SqL K H a (zs.map (·.1)) ∧ (∀ z ∈ zs, Dp K H z.1 z.2 ∧ z.2.depth ≤ 60) ∧ PySem.W.AllAlike (zs.map (·.2)) ∧ PySem.W.Sortable (zs.map (·.2)) ∧
  ∀ p, H p = none → Q (.ref p) (upd H p (.lst ((zs.mergeSort (PySem.W.dataLe false (·.2))).map (·.1))))
theorem each_of {R : Value → (V × PyData) → Prop} : ∀ {zs : List (V × PyData)} {us : List Value}, Vals (zs.map (·.1)) us → (∀ z ∈ zs, ∀ u, RelV z.1 u → R u z) → PySem.W.EachIs R us zs
  | [], _, h, _ => by cases h; exact .nil
  | z :: zs, _, h, k => by
    cases h with
    | cons r t => exact .cons (k z List.mem_cons_self _ r) (each_of t fun y hy => k y (List.mem_cons_of_mem _ hy))
theorem vals_of : ∀ {zs : List (V × PyData)} {us : List Value}, PySem.W.EachIs (fun u (z : V × PyData) => RelV z.1 u) us zs → Vals (zs.map (·.1)) us
  | _, _, .nil => .nil
  | _, _, .cons h t => .cons h (vals_of t)
theorem cr_sortD {X : Cx} (hu : X.A.units + 64 < cLine) : CallR X (.builtin "sorted") (rSortD X.K) := by
  intro pins s σ H vs us Q I r h
  obtain ⟨a, zs, rfl, hs, hd, h1, h2, q⟩ := h
  obtain ⟨its, rv, hl, hz⟩ := I.list hs
  rw [Vals.ref1 r]
  rw [List.length_map] at hz
  have e1 : PySem.W.EachIs (fun u (z : V × PyData) => RelV z.1 u) its zs := each_of rv fun z _ u h => h
  have e2 : PySem.W.EachIs (fun u (z : V × PyData) => ∃ as, Reads s.heap u z.2 as) its zs := each_of rv fun z hz u h => Dp.reads I z.2 z.1 u (hd z hz).1 h
  refine PySem.W.sorted_data (enc := (·.2)) hl.isList e1 e2 h1 h2 hz (fun b hb => by have := (hd b hb).2; omega) fun out ho eo => ?_
  obtain ⟨ep, he'⟩ := PyProof.Rows.sortedAll_at s.heap its out.toArray
  refine ⟨.ref _, upd H (s.heap.objs.size + 1) (.lst ((zs.mergeSort (PySem.W.dataLe false (·.2))).map (·.1))), I.laid (t' := s.toks) (fun _ _ => PyProof.Rows.sortedAll_old) (Nat.le_succ _) ⟨?_, out, ep, vals_of eo, he'⟩, rfl, q _ (I.hok.fresh (Nat.le_succ _))⟩
  rw [List.length_map, List.length_mergeSort]
  exact hz
end Rw
/-! own layer: set(l) of a list of tuples whose items are ints and texts -/
namespace Rw
open PySem PySem.Spec PySem.Calls PyProof.Rows L2
abbrev Pr := Addr × List Key
section
variable {P : Program} {w : World}
abbrev hsh (P : Program) (w : World) (p : Pr) : Int := tupleKeyHash (mixKind P w) p.2
abbrev Tk (P : Program) (w : World) (h : Heap) (p : Pr) : Prop := IsTupleKey (mixKind P w) h p.2 p.1
abbrev rw1 (P : Program) (w : World) (p : Pr) : Int × Value := (hsh P w p, .ref p.1)
/-- an int or a text -/
def Fl (v : Value) : Prop := (∃ i t, v = .int i t) ∨ ∃ x t, v = .str x t
theorem flat_items {c : List Key} {vs : List Value} (h : ItemsAre (mixKind P w) c vs) : ∀ v ∈ vs, Fl v := by
  induction h with
  | nil => exact fun v hv => nomatch hv
  | cons hk _ ih =>
    rintro v (_ | ⟨_, hv⟩)
    · rcases keyIs_shape hk with ⟨i, t, _, e⟩ | ⟨x, t, _, e⟩
      · exact .inl ⟨i, t, e⟩
      · exact .inr ⟨x, t, e⟩
    · exact ih v hv
variable {A : Around} {E : Value → Shared → Prop} {s : Shared}
theorem noclass_flat {v : Value} (h : Fl v) (n : Nat) : ofAClassStatement n v = pure false := by
  rcases h with ⟨i, t, rfl⟩ | ⟨x, t, rfl⟩ <;> cases n <;> rfl
theorem byval_flat {v : Value} (h : Fl v) (n : Nat) : ∃ b, hashByValue n v = pure b := by
  rcases h with ⟨i, t, rfl⟩ | ⟨x, t, rfl⟩ <;> cases n <;> exact ⟨_, rfl⟩
theorem noclass_tk {p : Pr} {Q : Bool → Shared → Prop} (h : Tk P w s.heap p) (q : Q false s) : wpAny (model P w) A (ofAClassStatement 8 (.ref p.1)) Q E s := by
  have ty := IsTupleKey.typeIs h
  obtain ⟨ob, its, m, g1, _, g2, g3⟩ := h
  have fl := flat_items g3
  unfold ofAClassStatement
  refine wpAny_bind (wpAny_typeOf ty ?_)
  dsimp only
  simp only [show (("tuple" : String) == "tuple") = true by decide, if_true, Bool.not_true, Bool.false_eq_true, if_false]
  try refine wpAny_bind (wpAny_pure ?_)
  try simp only [Bool.not_true, Bool.false_eq_true, if_false]
  show wpAny _ _ (seqItems? (.ref p.1) >>= _) _ _ s
  refine wpAny_bind (wpAny_seqItems g1 g2 ?_)
  dsimp only
  refine wpAny_bind ?_
  show wpAny _ _ (forIn its _ _) _ _ s
  rw [← Array.forIn_toList]
  refine wpAny_forIn_list _ (fun left r z => (r.1 = none ∧ z = s) ∧ ∀ v ∈ left, Fl v) _ (fun v left r z hz => ?_) (fun r z hz => ?_) _ _ ⟨⟨rfl, rfl⟩, fl⟩
  · obtain ⟨⟨hr, rfl⟩, al⟩ := hz
    rw [noclass_flat (al v List.mem_cons_self)]
    refine wpAny_bind (wpAny_pure ?_)
    simp only [Bool.false_eq_true, if_false]
    exact wpAny_pure ⟨⟨rfl, rfl⟩, fun u hu => al u (List.mem_cons_of_mem _ hu)⟩
  · obtain ⟨r1, r2⟩ := r
    obtain ⟨⟨hr, rfl⟩, _⟩ := hz
    cases (show r1 = none from hr)
    exact wpAny_pure q
theorem byval_tk {p : Pr} {Q : Bool → Shared → Prop} (h : Tk P w s.heap p) (q : ∀ b, Q b s) : wpAny (model P w) A (hashByValue 8 (.ref p.1)) Q E s := by
  have ty := IsTupleKey.typeIs h
  obtain ⟨ob, its, m, g1, _, g2, g3⟩ := h
  have fl := flat_items g3
  unfold hashByValue
  refine wpAny_bind (wpAny_specialOf ty F.slot_tuple_hash.lookup ?_)
  show wpAny _ _ (seqItems? (.ref p.1) >>= _) _ _ s
  refine wpAny_bind (wpAny_seqItems g1 g2 ?_)
  refine wpAny_bind ?_
  show wpAny _ _ (forIn its _ _) _ _ s
  rw [← Array.forIn_toList]
  refine wpAny_forIn_list _ (fun left r z => z = s ∧ ∀ v ∈ left, Fl v) _ (fun v left r z hz => ?_) (fun r z hz => ?_) _ _ ⟨rfl, fl⟩
  · obtain ⟨rfl, al⟩ := hz
    obtain ⟨b, e⟩ := byval_flat (al v List.mem_cons_self) 7
    rw [e]
    refine wpAny_bind (wpAny_pure ?_)
    cases b with
    | true =>
      simp only [Bool.not_true, Bool.false_eq_true, if_false]
      exact wpAny_pure ⟨rfl, fun u hu => al u (List.mem_cons_of_mem _ hu)⟩
    | false =>
      simp only [Bool.not_false, if_true]
      exact wpAny_pure (wpAny_pure (q false))
  · obtain ⟨r1, r2⟩ := r
    obtain ⟨rfl, _⟩ := hz
    cases r1 with
    | none => exact wpAny_pure (q true)
    | some b => exact wpAny_pure (q b)
/-- whether the search would show something: no -/
theorem unseen {p : Pr} {ys : List Value} {Q : Bool → Shared → Prop} (h : Tk P w s.heap p) (hy : ∀ y ∈ ys, ∃ r : Pr, y = .ref r.1 ∧ Tk P w s.heap r) (q : Q false s) : wpAny (model P w) A (searchCouldBeSeen (.ref p.1) ys) Q E s := by
  unfold searchCouldBeSeen
  refine wpAny_bind ?_
  refine wpAny_forIn_list _ (fun left r z => (r.1 = none ∧ z = s) ∧ ∀ y ∈ left, ∃ r : Pr, y = .ref r.1 ∧ Tk P w s.heap r) _ (fun v left r z hz => ?_) (fun r z hz => ?_) _ _ ⟨⟨rfl, rfl⟩, hy⟩
  · obtain ⟨⟨hr, rfl⟩, al⟩ := hz
    have al2 := fun u hu => al u (List.mem_cons_of_mem _ hu)
    obtain ⟨y, rfl, ty⟩ := al v List.mem_cons_self
    dsimp only
    by_cases c : (p.1 == y.1 || (carriedByValue (.ref p.1) && carriedByValue (.ref y.1))) = true
    · exact wp_if_pos c (wpAny_pure ⟨⟨rfl, rfl⟩, al2⟩)
    · refine wp_if_neg c (wpAny_bind (wpAny_eqIsQuiet_tuple h ?_))
      simp only [Bool.not_true, Bool.false_eq_true, if_false]
      refine wpAny_bind (wpAny_eqIsQuiet_tuple ty ?_)
      simp only [Bool.not_true, Bool.false_eq_true, if_false]
      refine wpAny_bind (noclass_tk h ?_)
      simp only [Bool.false_eq_true, if_false]
      refine wpAny_bind (noclass_tk ty ?_)
      simp only [Bool.false_eq_true, if_false]
      exact wpAny_pure ⟨⟨rfl, rfl⟩, al2⟩
  · obtain ⟨r1, r2⟩ := r
    obtain ⟨⟨hr, rfl⟩, _⟩ := hz
    cases (show r1 = none from hr)
    exact wpAny_pure q

/-! ### the set as it stands -/
/-- without the tuples -/
structure Bare (P : Program) (w : World) (h : Heap) (S : Addr) (L : List Pr) (es : Array (Int × Value)) (ep : Nat) (t : SetTable) : Prop where
  at_ : ∃ o, h.get? S = some o ∧ o.ExactSet ∧ o.data = .set es ep t
  row : es.toList = L.map (rw1 P w)
  tab : TabOk t (L.map (hsh P w))
  one : (L.map Prod.snd).Nodup
  ld : w.params.followText "set-order" = true ∨ t.led = true
  rm : 5 * L.length < 3 * t.mask
  few : L.length < 64
structure Ms (P : Program) (w : World) (h : Heap) (S : Addr) (L : List Pr) (es : Array (Int × Value)) (ep : Nat) (t : SetTable) : Prop extends Bare P w h S L es ep t where
  tks : ∀ p ∈ L, Tk P w h p
variable {S : Addr} {L : List Pr} {es : Array (Int × Value)} {ep : Nat} {t : SetTable}
theorem row_size {es : Array (Int × Value)} (h : es.toList = L.map (rw1 P w)) : es.size = L.length := by
  have := congrArg List.length h
  simpa using this
theorem row_at {es : Array (Int × Value)} (h : es.toList = L.map (rw1 P w)) {i : Nat} {p : Pr} (hp : L[i]? = some p) : es[i]? = some (rw1 P w p) := by
  rw [← Array.getElem?_toList, h, List.getElem?_map, hp]
  rfl
theorem Bare.places {h : Heap} (R : Bare P w h S L es ep t) : t.place.size = L.length := by
  have := R.tab.sz
  rwa [List.length_map] at this
theorem fits_of (hd : t.dummies = #[]) (h1 : t.place.size = es.size) (h2 : es.size ≤ t.mask) : t.fits es.size = true := by
  unfold SetTable.fits SetTable.fill
  rw [hd]
  simp [h1, h2]
theorem Bare.fit {h : Heap} (R : Bare P w h S L es ep t) : t.fits es.size = true := by
  have a := R.places
  have b := row_size R.row
  have c := R.rm
  exact fits_of R.tab.dm (a.trans b.symm) (by omega)
theorem Bare.gave {h : Heap} (R : Bare P w h S L es ep t) : ¬ t.gaveWay = true := by
  unfold SetTable.gaveWay
  simp [mask_odd R.tab.mok]
abbrev pb (t : SetTable) (x : Int) (c : Nat) : SetTable.Probe := nth t.mask (runAt t.mask (SetTable.bits x % (t.mask + 1)) (SetTable.bits x)) c
theorem nth_dummy (m : Nat) : ∀ (n : Nat) (p : SetTable.Probe), p.dummy = none → (nth m p n).dummy = none
  | 0, _, h => h
  | n + 1, p, h => nth_dummy m n (adv m p) (by unfold adv; split <;> exact h)
/-- looking for p, from step c of its way on: K is the first free step -/
theorem look (R : Ms P w s.heap S L es ep t) {p : Pr} (hp : Tk P w s.heap p) (hu : A.units < cLine) {K : Nat} (k1 : K < 10 * SetTable.turns t.mask) (k2 : way t.mask (hsh P w p) K ∉ t.place.toList)
    (k3 : ∀ c, c < K → way t.mask (hsh P w p) c ∈ t.place.toList) {Q : SetFound → Shared → Prop} (yes : p.2 ∈ L.map Prod.snd → Q (.there none) s) (no : p.2 ∉ L.map Prod.snd → Q (.free (way t.mask (hsh P w p) K) false) s) :
    ∀ (f c : Nat) (st : Option SetTable.Probe), st.getD (t.probeStart (hsh P w p)) = pb t (hsh P w p) c → c ≤ K → K - c < f →
      (∀ (i : Nat) r, L[i]? = some r → r.2 = p.2 → ∃ d, c ≤ d ∧ d < K ∧ t.place.toList[i]? = some (way t.mask (hsh P w p) d)) →
      wpAny (model P w) A (setSearchFrom S (.ref p.1) (hsh P w p) true f st) Q E s := by
  intro f
  induction f with
  | zero => exact fun c st _ _ z _ => absurd z (Nat.not_lt_zero _)
  | succ f ih =>
    intro c st e hc hf hre
    obtain ⟨o, ho, hex, hd⟩ := R.at_
    have hsum : c + (K - c) = K := by omega
    rw [setSearchFrom_succ]
    refine wpAny_bind (wpAny_setState_of ho hd R.fit ?_)
    dsimp only
    refine wp_if_neg R.gave ?_
    try refine wpAny_bind (wpAny_pure ?_)
    have shift : ∀ q, nth t.mask (pb t (hsh P w p) c) q = pb t (hsh P w p) (c + q) := fun q => (nth_add t.mask c _ q).symm
    have shj : ∀ q, (nth t.mask (pb t (hsh P w p) c) q).j = way t.mask (hsh P w p) (c + q) := fun q => congrArg SetTable.Probe.j (shift q)
    have hat : ∀ (i : Nat) r, L[i]? = some r → (es[i]?.map (·.1)).getD 0 = hsh P w r := fun i r hr => by
      rw [row_at R.row hr]
      rfl
    have G := go_spec t R.tab.ris R.tab.dm (fun i => (es[i]?.map (·.1)).getD 0) (hsh P w p) (10 * SetTable.turns t.mask) (K - c) (pb t (hsh P w p) c) (nth_dummy _ _ _ rfl) (by omega)
      (fun q hq => by rw [shj]; exact k3 (c + q) (by omega)) (by rw [shj, hsum]; exact k2)
    rcases G with ⟨q, i, hq, hi, _, hno, hgo⟩ | ⟨hno, hgo⟩
    · have pe : t.probe (fun i => (es[i]?.map (·.1)).getD 0) (hsh P w p) (st.getD (t.probeStart (hsh P w p))) = some (.candidate (way t.mask (hsh P w p) (c + q)) i (pb t (hsh P w p) (c + (q + 1)))) := by
        rw [e, ← shj, ← shift]
        exact hgo
      rw [pe]
      dsimp only
      rw [shj] at hi
      have il : i < L.length := by
        have z := (List.getElem?_eq_some_iff.mp hi).1
        rw [Array.length_toList, R.places] at z
        exact z
      obtain ⟨r, hr⟩ : ∃ r, L[i]? = some r := ⟨_, List.getElem?_eq_getElem il⟩
      have rm := List.mem_of_getElem? hr
      have live : t.slot (way t.mask (hsh P w p) (c + q)) = .live i := slot_live R.tab.ris hi
      have cont : wpAny (model P w) A (searchRest S (.ref p.1) (hsh P w p) true f es t (way t.mask (hsh P w p) (c + q)) i (pb t (hsh P w p) (c + (q + 1)))) Q E s := by
        unfold searchRest
        rw [row_at R.row hr]
        dsimp only
        refine wpAny_bind (wpAny_holding (wpAny_eqBool_tuple hu (R.tks r rm) hp ?_))
        refine wpAny_bind (wpAny_setState_of ho hd R.fit ?_)
        dsimp only
        by_cases same : r.2 = p.2
        · refine wp_if_pos (by simp [same]) (wpAny_pure (yes ?_))
          rw [← same]
          exact List.mem_map_of_mem rm
        · refine wp_if_neg (by simp [same]) ?_
          try refine wpAny_bind (wpAny_pure ?_)
          rw [sameMem]
          dsimp only
          simp only [if_true, live, row_at R.row hr]
          refine wpAny_bind (wpAny_isSame_ref_self (wpAny_bind (wpAny_pure ?_)))
          simp only [if_true]
          refine wp_if_neg (by simp [same]) ?_
          refine ih (c + (q + 1)) _ rfl (by omega) (by omega) fun j r' hj hs => ?_
          obtain ⟨d, d1, d2, d3⟩ := hre j r' hj hs
          have hh : (es[j]?.map (·.1)).getD 0 = hsh P w p := by rw [hat j r' hj]; exact congrArg (tupleKeyHash (mixKind P w)) hs
          refine ⟨d, ?_, d2, d3⟩
          have ne : d ≠ c + q := fun ec => by
            rw [ec] at d3
            have z := slot_live R.tab.ris d3
            rw [live] at z
            injection z with z
            rw [← z, hr] at hj
            cases hj
            exact same hs
          have nlt : ¬ d < c + q := fun lt => hno (d - c) j (by omega) (by rw [shj, show c + (d - c) = d by omega]; exact d3) hh
          omega
      by_cases hl : t.led = true
      · refine wp_if_neg (by simp [hl]) ?_
        try refine wpAny_bind (wpAny_pure ?_)
        exact cont
      · refine wp_if_pos (by simp [hl]) (wpAny_bind (unseen hp (fun y hy => ?_) ?_))
        · obtain ⟨x, hx, rfl⟩ := List.mem_map.mp hy
          have hx2 : x ∈ es.toList := by
            have : x ∈ es ∧ x.1 = hsh P w p := by simpa using hx
            simpa using this.1
          rw [R.row] at hx2
          obtain ⟨r2, hr2, rfl⟩ := List.mem_map.mp hx2
          exact ⟨r2, rfl, R.tks r2 hr2⟩
        · refine wp_if_neg (by decide) ?_
          try refine wpAny_bind (wpAny_pure ?_)
          exact cont
    · have pe : t.probe (fun i => (es[i]?.map (·.1)).getD 0) (hsh P w p) (st.getD (t.probeStart (hsh P w p))) = some (.empty (way t.mask (hsh P w p) K) none) := by
        have z := shj (K - c)
        rw [hsum] at z
        rw [e, ← z]
        exact hgo
      rw [pe]
      dsimp only
      refine wpAny_pure (no fun hm => ?_)
      obtain ⟨r, hr, hs⟩ := List.mem_map.mp hm
      obtain ⟨j, hj⟩ := List.getElem?_of_mem hr
      obtain ⟨d, d1, d2, d3⟩ := hre j r hj hs
      exact hno (d - c) j (by omega) (by rw [shj, show c + (d - c) = d by omega]; exact d3) ((hat j r hj).trans (congrArg (tupleKeyHash (mixKind P w)) hs))

theorem seek (R : Ms P w s.heap S L es ep t) {p : Pr} (hp : Tk P w s.heap p) (hu : A.units < cLine) {Q : SetFound → Shared → Prop} (yes : p.2 ∈ L.map Prod.snd → Q (.there none) s)
    (no : ∀ K, p.2 ∉ L.map Prod.snd → way t.mask (hsh P w p) K ∉ t.place.toList → (∀ c, c < K → way t.mask (hsh P w p) c ∈ t.place.toList) → Q (.free (way t.mask (hsh P w p) K) false) s) :
    wpAny (model P w) A (setSearch S (.ref p.1) (hsh P w p) true) Q E s := by
  have rm := R.rm
  obtain ⟨K, k1, k2, k3⟩ := R.tab.first (by rw [List.length_map]; omega) (hsh P w p)
  have tu : SetTable.turns t.mask ≤ 142 := by
    unfold SetTable.turns
    rcases R.tab.mok with z | z | z <;> rw [z] <;> decide
  unfold setSearch
  refine look R hp hu k1 k2 k3 yes (fun n => no K n k2 k3) 100000 0 none rfl (Nat.zero_le _) (by omega) fun i r hr hs => ?_
  have il : i < t.place.toList.length := by
    rw [Array.length_toList, R.places]
    exact (List.getElem?_eq_some_iff.mp hr).1
  have hj := List.getElem?_eq_getElem il
  obtain ⟨d, d1, d2⟩ := R.tab.before (h := hsh P w p) k2 (by rw [List.getElem?_map, hr]; exact congrArg (fun c => some (tupleKeyHash (mixKind P w) c)) hs) hj
  exact ⟨d, Nat.zero_le _, d1, by rw [d2]; exact hj⟩
/-- a tuple is not the set that is written -/
theorem tk_but {h h' : Heap} {p : Pr} {o : Obj} (x : Tk P w h p) (ho : h.get? S = some o) (hd : o.data = .set es ep t) (b : Heap.SameBut S h h') : Tk P w h' p := by
  obtain ⟨o1, its, n, g1, g2, g3, g4⟩ := x
  refine ⟨o1, its, n, (b.2 p.1 fun z => ?_).trans g1, g2, g3, g4⟩
  rw [z, ho] at g1
  cases g1
  rw [hd] at g3
  cases g3
theorem all_in : ∀ (L : List Pr) (n : Nat), n ≤ L.length → (List.range n).filterMap (fun i => L[i]?) = L.take n
  | _, 0, _ => rfl
  | L, n + 1, h => by
    rw [List.range_succ, List.filterMap_append, all_in L n (by omega), List.take_succ]
    simp [List.getElem?_eq_getElem (show n < L.length from h)]
/-- the rows in another order -/
theorem reorder {es : Array (Int × Value)} (hr : es.toList = L.map (rw1 P w)) {od : Array Nat} (hp : od.toList.Perm (List.range L.length)) :
    ∃ M : List Pr, (od.filterMap (es[·]?)).toList = M.map (rw1 P w) ∧ M.Perm L ∧ M.map (hsh P w) = od.toList.map fun i => (es.map (·.1)).getD i 0 := by
  refine ⟨od.toList.filterMap fun i => L[i]?, ?_, ?_, ?_⟩
  · rw [Array.toList_filterMap, List.map_filterMap]
    congr 1
    funext i
    rw [← Array.getElem?_toList, hr, List.getElem?_map]
  · have z := hp.filterMap fun i => L[i]?
    rwa [all_in L L.length (Nat.le_refl _), List.take_length] at z
  · have key : ∀ l : List Nat, (∀ i ∈ l, i < L.length) → (l.filterMap fun i => L[i]?).map (hsh P w) = l.map fun i => (es.map (·.1)).getD i 0 := by
      intro l
      induction l with
      | nil => exact fun _ => rfl
      | cons i l ih =>
        intro h
        have il := h i List.mem_cons_self
        have e : (es.map (·.1)).getD i 0 = hsh P w L[i] := by
          rw [Array.getD_eq_getD_getElem?, Array.getElem?_map, row_at hr (List.getElem?_eq_getElem il)]
          rfl
        rw [List.filterMap_cons_some (List.getElem?_eq_getElem il), List.map_cons, List.map_cons, e, ih fun j hj => h j (List.mem_cons_of_mem _ hj)]
    exact key _ fun i hi => List.mem_range.mp (hp.mem_iff.mp hi)
/-- a larger table -/
theorem relay {o : Obj} (ho : s.heap.get? S = some o) (hex : o.ExactSet) (hd : o.data = .set es ep t) (hr : es.toList = L.map (rw1 P w)) (T : TabOk t (L.map (hsh P w))) (hm : L.length ≤ t.mask) (one : (L.map Prod.snd).Nodup)
    (tks : ∀ p ∈ L, Tk P w s.heap p) (ld : w.params.followText "set-order" = true ∨ t.led = true) (few : L.length < 64) {want M : Nat} (m1 : SetTable.sizeAbove want = M + 1) (m2 : MaskOk M) (m3 : M ≤ 127) (m4 : 5 * L.length < 3 * M) {Q : Unit → Shared → Prop}
    (q : ∀ h' L' es' ep' t', Heap.SameBut S s.heap h' → Ms P w h' S L' es' ep' t' → L'.Perm L → Q () { s with heap := h' }) : wpAny (model P w) A (setRelay S want) Q E s := by
  have z1 := row_size hr
  have z2 : t.place.size = L.length := by have := T.sz; rwa [List.length_map] at this
  have fit : t.fits es.size = true := fits_of T.dm (z2.trans z1.symm) (by omega)
  obtain ⟨t', od, e1, e2, T', e3, e4, _, _⟩ := relaid_ok t (hs := es.map (·.1)) (wanted := want) (M := M) (by omega) m2 (by rw [Array.size_map]; omega)
  rw [Array.size_map, z1] at e2
  obtain ⟨L', f1, f2, f3⟩ := reorder hr e2
  rw [← f3] at T'
  have z3 : (od.filterMap (es[·]?)).size = es.size := by rw [row_size f1, f2.length_eq, z1]
  rw [setRelay_eq]
  refine wpAny_bind (wpAny_setState_of ho hd fit ?_)
  dsimp only
  refine wp_if_neg (by rw [sizeLine_eq]; omega) ?_
  try refine wpAny_bind (wpAny_pure ?_)
  rw [e1]
  dsimp only
  refine wpAny_bind ?_
  refine wp_if_neg (by rw [z3]; simp) ?_
  try refine wpAny_bind (wpAny_pure ?_)
  refine wpAny_pure ?_
  dsimp only
  refine wpAny_storeSet_of ho hd ?_ (by rw [z3, sizeLine_eq]; omega)
  have but : Heap.SameBut S s.heap (s.heap.update S (Obj.putSet (od.filterMap (es[·]?)) t')) := Heap.SameBut.update ..
  refine q _ L' (od.filterMap (es[·]?)) (ep + 1) t' but { at_ := ⟨_, store_at ho hd, ⟨hex.1, hex.2.1, hex.2.2⟩, rfl⟩, row := f1, tab := T', one := (f2.map Prod.snd).nodup_iff.mpr one, ld := e4 ▸ ld, rm := ?_, few := f2.length_eq ▸ few, tks := fun p hp => tk_but (tks p (f2.mem_iff.mp hp)) ho hd but } f2
  rw [f2.length_eq, e3]
  exact m4
theorem tab_plain {t : SetTable} {hs : List Int} (T : TabOk t hs) : TabOk { t with plain := false } hs := ⟨T.ris, T.dm, T.sz, T.mok, T.bd, T.reach⟩
/-- one more -/
theorem join1 (R : Ms P w s.heap S L es ep t) {p : Pr} (hp : Tk P w s.heap p) (hu : A.units < cLine) (fw : L.length + 1 < 64) {Q : Bool → Shared → Prop}
    (q : ∀ b h' L' es' ep' t', Heap.SameBut S s.heap h' → Ms P w h' S L' es' ep' t' → (p.2 ∈ L.map Prod.snd → L' = L) → (p.2 ∉ L.map Prod.snd → L'.Perm (p :: L)) → Q b { s with heap := h' }) :
    wpAny (model P w) A (setAddHashed S (.ref p.1) (hsh P w p)) Q E s := by
  obtain ⟨o, ho, hex, hd⟩ := R.at_
  have z1 := row_size R.row
  have rm := R.rm
  unfold setAddHashed
  refine wpAny_holding ?_
  rw [show (100000 : Nat) = 99999 + 1 from rfl, setAddHashedIn_succ]
  refine wpAny_bind (wpAny_setState_of ho hd R.fit ?_)
  dsimp only
  refine wp_if_neg (by simp [byScan, Value.scannable]) ?_
  try refine wpAny_bind (wpAny_pure ?_)
  refine wpAny_bind (seek R hp hu (fun hm => ?_) fun K hm k2 k3 => ?_)
  · exact wpAny_pure (q false s.heap L es ep t (Heap.SameBut.refl ..) R (fun _ => rfl) (absurd hm))
  dsimp only
  refine wpAny_bind (wpAny_setState_of ho hd R.fit ?_)
  dsimp only
  obtain ⟨p1, p2, p3, p4, p5, _, _, _, p9⟩ := R.tab.put k2 k3
  rw [List.length_map] at p2 p9
  generalize hpt : t.put (way t.mask (hsh P w p) K) = pt at p1 p3 p4 p5 p9 ⊢
  obtain ⟨t1, n⟩ := pt
  dsimp only at p1 p3 p4 p5 p9 ⊢
  rw [← p1] at p2 p3
  have fin : ∀ t2 : SetTable, TabOk t2 ((L.map (hsh P w)).take n ++ hsh P w p :: (L.map (hsh P w)).drop n) → t2.mask = t.mask → t2.led = t.led → t2.fill = L.length + 1 →
      wpAny (model P w) A (do
        storeSet S (SetTable.insertAt es n (hsh P w p, .ref p.1)) t2
        if !false && t2.tooFull then setRelay S (SetTable.grown (es.size + 1))
        return true) Q E s := by
    intro t2 T2 w1 w2 w3
    have row : (SetTable.insertAt es n (hsh P w p, .ref p.1)).toList = (L.take n ++ p :: L.drop n).map (rw1 P w) := by
      rw [SetTable.toList_insertAt, R.row, List.map_append, List.map_cons, List.map_take, List.map_drop]
    rw [show (L.map (hsh P w)).take n ++ hsh P w p :: (L.map (hsh P w)).drop n = (L.take n ++ p :: L.drop n).map (hsh P w) by rw [List.map_append, List.map_cons, List.map_take, List.map_drop]] at T2
    have pm : (L.take n ++ p :: L.drop n).Perm (p :: L) := by
      have := List.perm_middle (a := p) (l₁ := L.take n) (l₂ := L.drop n)
      rwa [List.take_append_drop] at this
    generalize L.take n ++ p :: L.drop n = L1 at row T2 pm
    generalize SetTable.insertAt es n (hsh P w p, .ref p.1) = es1 at row ⊢
    have len : L1.length = L.length + 1 := pm.length_eq
    have one1 : (L1.map Prod.snd).Nodup := (pm.map Prod.snd).nodup_iff.mpr (List.nodup_cons.mpr ⟨hm, R.one⟩)
    refine wpAny_bind (wpAny_storeSet_of ho hd ?_ (by rw [row_size row, sizeLine_eq]; omega))
    have but : Heap.SameBut S s.heap (s.heap.update S (Obj.putSet es1 t2)) := Heap.SameBut.update ..
    have ho1 := store_at (es' := es1) (t' := t2) ho hd
    generalize s.heap.update S (Obj.putSet es1 t2) = h1 at but ho1 ⊢
    have tks1 : ∀ r ∈ L1, Tk P w h1 r := fun r hr => by
      rcases List.mem_cons.mp (pm.mem_iff.mp hr) with e | e
      · exact e ▸ tk_but hp ho hd but
      · exact tk_but (R.tks r e) ho hd but
    have ld1 : w.params.followText "set-order" = true ∨ t2.led = true := w2 ▸ R.ld
    have full : t2.tooFull = decide ((L.length + 1) * 5 ≥ t.mask * 3) := by
      unfold SetTable.tooFull
      rw [w3, w1]
    by_cases hf : t2.tooFull = true
    · first
        | (refine wpAny_bind ?_; refine wp_if_pos (by simp [hf]) ?_)
        | (refine wp_if_pos (by simp [hf]) ?_; refine wpAny_bind ?_)
      rw [full, decide_eq_true_eq] at hf
      rw [z1]
      have two : (t.mask = 7 ∧ L.length = 4) ∨ (t.mask = 31 ∧ L.length = 18) := by
        rcases R.tab.mok with e | e | e
        · exact .inl ⟨e, by omega⟩
        · exact .inr ⟨e, by omega⟩
        · omega
      have go : ∀ M, SetTable.sizeAbove (SetTable.grown (L.length + 1)) = M + 1 → MaskOk M → M ≤ 127 → 5 * (L.length + 1) < 3 * M → wpAny (model P w) A (setRelay S (SetTable.grown (L.length + 1))) (fun _ z => wpAny (model P w) A (pure true) Q E z) E { s with heap := h1 } := by
        intro M a1 a2 a3 a4
        refine relay (s := { s with heap := h1 }) ho1 ⟨hex.1, hex.2.1, hex.2.2⟩ rfl row T2 (by rw [len, w1]; omega) one1 tks1 ld1 (by rw [len]; exact fw) a1 a2 a3 (by rw [len]; exact a4) ?_
        exact fun h2 L2 es2 ep2 t3 but2 R2 pm2 => wpAny_pure (q true h2 L2 es2 ep2 t3 (but.trans but2) R2 (fun z => absurd z hm) fun _ => pm2.trans pm)
      rcases two with ⟨_, e⟩ | ⟨_, e⟩
      · exact go 31 (by rw [e, size_20]) (.inr (.inl rfl)) (by decide) (by omega)
      · exact go 127 (by rw [e, size_76]) (.inr (.inr rfl)) (by decide) (by omega)
    · first
        | refine wp_if_neg (by simp [hf]) ?_
        | (refine wpAny_bind ?_; refine wp_if_neg (by simp [hf]) ?_; refine wpAny_pure ?_)
      rw [full, decide_eq_true_eq] at hf
      exact wpAny_pure (q true h1 L1 es1 (ep + 1) t2 but { at_ := ⟨_, ho1, ⟨hex.1, hex.2.1, hex.2.2⟩, rfl⟩, row := row, tab := T2, one := one1, ld := ld1, rm := by rw [len, w1]; omega, few := by rw [len]; exact fw, tks := tks1 } (fun z => absurd z hm) fun _ => pm)
  have fin2 : ∀ b : Bool, wpAny (model P w) A (do
      storeSet S (SetTable.insertAt es n (hsh P w p, .ref p.1)) (if b = true then t1 else { t1 with plain := false })
      if !false && (if b = true then t1 else { t1 with plain := false }).tooFull then setRelay S (SetTable.grown (es.size + 1))
      return true) Q E s := by
    intro b
    cases b with
    | true => exact fin t1 p3 p4 p5 p9
    | false => exact fin { t1 with plain := false } (tab_plain p3) p4 p5 p9
  by_cases hpl : t1.plain = true
  · first
      | (refine wpAny_bind ?_; refine wp_if_pos hpl ?_; exact byval_tk hp fin2)
      | exact wp_if_pos hpl (wpAny_bind (byval_tk hp fin2))
  · first
      | (refine wpAny_bind ?_; refine wp_if_neg hpl ?_; exact wpAny_pure (fin2 true))
      | exact wp_if_neg hpl (wpAny_bind (wpAny_pure (fin2 true)))
end
end Rw
/-! own layer: set(l), l a list of tuples of ints and texts; its len -/
namespace Rw
open PySem PySem.Spec PySem.Calls PyProof.Rows L2
section
variable {P : Program} {w : World} {A : Around} {E : Value → Shared → Prop} {s : Shared}
/-- the first i of ks are in -/
structure InBy (ks : List Pr) (i : Nat) (L : List Pr) : Prop where
  only : ∀ p ∈ L, p ∈ ks.take i
  each : ∀ p ∈ ks.take i, p.2 ∈ L.map Prod.snd
theorem InBy.next {ks L L' : List Pr} {i : Nat} {p : Pr} (g : InBy ks i L) (h : ks[i]? = some p) (a : p.2 ∈ L.map Prod.snd → L' = L) (b : p.2 ∉ L.map Prod.snd → L'.Perm (p :: L)) : InBy ks (i + 1) L' := by
  have e : ks.take (i + 1) = ks.take i ++ [p] := by rw [List.take_succ, h]; rfl
  by_cases c : p.2 ∈ L.map Prod.snd
  · rw [a c]
    refine ⟨fun r hr => ?_, fun r hr => ?_⟩
    · rw [e]
      exact List.mem_append_left _ (g.only r hr)
    · rw [e] at hr
      rcases List.mem_append.mp hr with z | z
      · exact g.each r z
      · cases List.mem_singleton.mp z
        exact c
  · have pm := b c
    refine ⟨fun r hr => ?_, fun r hr => ?_⟩
    · rw [e]
      rcases List.mem_cons.mp (pm.mem_iff.mp hr) with z | z
      · exact List.mem_append_right _ (List.mem_singleton.mpr z)
      · exact List.mem_append_left _ (g.only r z)
    · rw [(pm.map Prod.snd).mem_iff, List.map_cons]
      rw [e] at hr
      rcases List.mem_append.mp hr with z | z
      · exact List.mem_cons_of_mem _ (g.each r z)
      · cases List.mem_singleton.mp z
        exact List.mem_cons_self
theorem few_of : ∀ {l D : List Pr}, l.Nodup → (∀ x ∈ l, x ∈ D) → l.length ≤ D.length
  | [], _, _, _ => Nat.zero_le _
  | x :: l, D, nd, h => by
    obtain ⟨n1, n2⟩ := List.nodup_cons.mp nd
    obtain ⟨a, b, rfl⟩ := List.append_of_mem (h x List.mem_cons_self)
    have z := few_of (D := a ++ b) n2 fun y hy => by
      rcases List.mem_append.mp (h y (List.mem_cons_of_mem _ hy)) with q | q
      · exact List.mem_append_left _ q
      · rcases List.mem_cons.mp q with q | q
        · exact absurd (q ▸ hy) n1
        · exact List.mem_append_right _ q
    rw [List.length_append] at z
    rw [List.length_append, List.length_cons, List.length_cons]
    omega
theorem InBy.short {ks L : List Pr} {i : Nat} (g : InBy ks i L) (one : (L.map Prod.snd).Nodup) : L.length ≤ i := by
  have nd : L.Nodup := List.Pairwise.of_map Prod.snd (fun _ _ ne e => ne (congrArg Prod.snd e)) one
  have sub : L.length ≤ (ks.take i).length := few_of nd g.only
  have := List.length_take_le i ks
  omega
theorem tk_keep {h h' : Heap} {p : Pr} (x : Tk P w h p) (k : ∀ b o, h.get? b = some o → h'.get? b = some o) : Tk P w h' p := let ⟨o, its, n, g, r⟩ := x; ⟨o, its, n, k _ _ g, r⟩
theorem Ms.keep {h h' : Heap} {S : Addr} {L : List Pr} {es : Array (Int × Value)} {ep : Nat} {t : SetTable} (R : Ms P w h S L es ep t) (k : ∀ o, h.get? S = some o → h'.get? S = some o) (kt : ∀ p ∈ L, Tk P w h' p) : Ms P w h' S L es ep t :=
  let ⟨o, g, r⟩ := R.at_
  { R with at_ := ⟨o, k o g, r⟩, tks := kt }
theorem ms_new {h : Heap} {S : Addr} (ho : h.get? S = some (newSet w)) : Ms P w h S [] #[] 0 (.fresh 0 0 (!w.params.followText "set-order")) where
  at_ := ⟨_, ho, ⟨rfl, rfl, rfl⟩, rfl⟩
  row := rfl
  tab := ⟨List.Pairwise.nil, rfl, rfl, .inl rfl, (fun x hx => nomatch hx), fun i h j hi => by simp at hi⟩
  one := List.nodup_nil
  ld := by
    cases h : w.params.followText "set-order"
    · exact .inr rfl
    · exact .inl rfl
  rm := by
    show 5 * 0 < 3 * 7
    decide
  few := by
    show 0 < 64
    decide
  tks := fun p hp => nomatch hp
/-- the loop that takes them in -/
theorem take_in {I : Addr} {fp wr : List Addr} {G : Array GenState → Array GenState → Prop} {Pv : Nat → Value → Prop} {St : Nat → Shared → Prop} {R : Result → Shared → Prop} {S : Addr} {ks : List Pr} {h0 : Heap}
    (W : WalksS P w A.in1 I fp wr G ks.length Pv St) (away : S ∉ fp) (few : ks.length < 64) (val : ∀ i v, Pv i v → ∃ p, ks[i]? = some p ∧ v = .ref p.1) (tk : ∀ p ∈ ks, Tk P w h0 p) (S0 : h0.get? S = none)
    (w0 : ∀ b ∈ wr, h0.get? b = none) (hu : A.in1.units < cLine)
    (fin : ∀ s' L es ep t, Moved (S :: wr) G s s' → Ms P w s'.heap S L es ep t → InBy ks ks.length L → (∀ b o, h0.get? b = some o → s'.heap.get? b = some o) → R (.ok (.ret .none)) s') :
    ∀ (m i : Nat) (s1 : Shared), i + m = ks.length → St i s1 → Moved (S :: wr) G s s1 → (∀ b o, h0.get? b = some o → s1.heap.get? b = some o) → (∃ L es ep t, Ms P w s1.heap S L es ep t ∧ InBy ks i L) →
      codeAny (model P w) A (.builtin "set.update.loop" ⟨[.ref S, .ref I], []⟩) R s1 := by
  have awr : S ∉ wr := fun z => away (W.sub _ z)
  have on : ∀ {s1 s2 : Shared}, Moved wr G s1 s2 → (∀ b o, h0.get? b = some o → s1.heap.get? b = some o) → ∀ b o, h0.get? b = some o → s2.heap.get? b = some o := fun m k b o e =>
    m.heap b o (fun z => by rw [w0 b z] at e; cases e) (k b o e)
  have wide : ∀ {s1 s2 : Shared}, Moved wr G s1 s2 → Moved (S :: wr) G s1 s2 := fun m => m.mono fun b hb => List.mem_cons_of_mem _ hb
  intro m
  induction m with
  | zero =>
    intro i s1 hi st mv k0 ⟨L, es, ep, t, hS, g⟩
    have e : i = ks.length := hi
    subst e
    refine codeAny_builtin F.entry_set_update_loop ?_
    rw [Around.under_plainId F.plain_set_update_loop _]
    show wpAny _ A.in1 (pyNext (.ref I) >>= _) _ _ s1
    refine wpAny_bind (W.done s1 _ _ st fun s2 m2 => ?_)
    have k2 := on m2 k0
    exact wpAny_pure (fin s2 L es ep t (Moved.trans W.gtrans mv (wide m2)) (hS.keep (fun o e => m2.heap S o awr e) fun p hp => tk_keep (tk p (List.mem_of_mem_take (g.only p hp))) k2) g k2)
  | succ m ih =>
    intro i s1 hi st mv k0 ⟨L, es, ep, t, hS, g⟩
    refine codeAny_builtin F.entry_set_update_loop ?_
    rw [Around.under_plainId F.plain_set_update_loop _]
    show wpAny _ A.in1 (pyNext (.ref I) >>= _) _ _ s1
    refine wpAny_bind (W.item i s1 _ _ (by omega) st fun v s2 pv st2 m2 => ?_)
    obtain ⟨p, hp, rfl⟩ := val i v pv
    have k2 := on m2 k0
    have hS2 := hS.keep (h' := s2.heap) (fun o e => m2.heap S o awr e) fun r hr => tk_keep (tk r (List.mem_of_mem_take (g.only r hr))) k2
    have tp : Tk P w s2.heap p := tk_keep (tk p (List.mem_of_getElem? hp)) k2
    show wpAny _ A.in1 (holding [Value.ref p.1] (setAdd S (.ref p.1)) >>= _) _ _ s2
    refine wpAny_bind (wpAny_holding ?_)
    unfold setAdd
    refine wpAny_holding (wpAny_bind (wpAny_pyHash_tuple hu tp ?_))
    have gs := g.short hS.one
    refine join1 (s := { s2 with toks := s2.toks + (p.2.length + 1) }) hS2 tp hu (by omega) fun b h' L' es' ep' t' but hS3 c1 c2 => ?_
    have k3 : ∀ b o, h0.get? b = some o → h'.get? b = some o := fun b o e => (but.2 b fun z => by rw [z, S0] at e; cases e).trans (k2 b o e)
    refine wpAny_pure ⟨plainId_quiet F.plain_set_update_loop _, ih (i + 1) _ (by omega) (W.frame _ s2 h' _ st2 (Nat.le_add_right _ _) fun b hb o e => ?_) ?_ k3 ⟨L', es', ep', t', hS3, g.next hp c1 c2⟩⟩
    · exact (but.2 b fun z => away (z ▸ hb)).trans e
    · exact Moved.trans W.gtrans mv ((wide m2).then_heap (Nat.le_add_right _ _) fun b o hb e => (but.2 b fun z => hb (z ▸ List.mem_cons_self)).trans e)
/-- S.__init__(l) -/
theorem init_tks {l S : Addr} {items : Array Value} (ks : List Pr) {R : Result → Shared → Prop} (hh : A.handled = none) (hl : s.heap.IsList l items) (hit : items.toList = ks.map fun p => Value.ref p.1) (few : ks.length < 64) (hu : A.units + 3 < cLine)
    {h0 : Heap} (tk : ∀ p ∈ ks, Tk P w h0 p) (S0 : h0.get? S = none) (k0 : ∀ b o, h0.get? b = some o → s.heap.get? b = some o) (hS : s.heap.get? S = some (newSet w)) (hne : S ≠ l)
    (hq : ∀ (h' : Heap) (tk : Nat) L es ep t, Ms P w h' S L es ep t → InBy ks ks.length L → (∀ b o, b ≠ S → s.heap.get? b = some o → h'.get? b = some o) → R (.ok (.ret .none)) { s with heap := h', toks := tk }) :
    codeAny (model P w) A (.call (.builtin "set.__init__") ⟨[.ref S, .ref l], []⟩) R s := by
  have hisz : items.size = ks.length := by rw [← Array.length_toList, hit, List.length_map]
  have hT : s.TypeIs (.ref S) "set" := ⟨_, hS, rfl⟩
  refine codeAny_call_builtin F.called_set.init.plain F.entry_set_init (check_set_init_1 hT ?_)
  obtain ⟨ol, hol, hcl, nl, hdl⟩ := id hl
  obtain ⟨ocls, odict, odata, oslots⟩ := ol
  cases hcl
  cases hdl
  have sub1 := F.sub_list_set
  have sub2 := F.sub_list_frozenset
  have nodict : (Value.type "list" == Value.type "dict") = false := by decide
  unfold Builtin.«set.__init__» noKeywords Builtin.Frozenset.updateFrom
  generalize hPI : pyIter = PI
  wp_walk
  subst hPI
  have hI : S < s.heap.objs.size := Heap.lt_size hS
  have hlI : l < s.heap.objs.size := Heap.lt_size hol
  refine wpAny_pyIter_list hl ?_
  refine wpAny_bind (wpAny_runValue ?_)
  have away : S ∉ [s.heap.objs.size, l] := fun z => by
    rcases List.mem_cons.mp z with e | e
    · exact Nat.ne_of_lt hI e
    · exact hne (List.mem_singleton.mp e)
  have val : ∀ (i : Nat) (v : Value), items[i]? = some v → ∃ p, ks[i]? = some p ∧ v = .ref p.1 := fun i v hv => by
    rw [← Array.getElem?_toList, hit, List.getElem?_map] at hv
    cases e : ks[i]? with
    | none => rw [e] at hv; cases hv
    | some p => rw [e] at hv; exact ⟨p, rfl, (Option.some.inj hv).symm⟩
  have quiet : A.in1.in1.handled = none := by simp [hh]
  have W := (Walks.list (prog := P) (w := w) (A := A.in1.in1) (by simpa using quiet) s.heap.objs.size l (Nat.ne_of_lt hlI) items).toS
  rw [hisz] at W
  have beyond : ∀ b, s.heap.objs.size ≤ b → h0.get? b = none := fun b hb => by
    cases q : h0.get? b with
    | none => rfl
    | some o => exact absurd (Nat.lt_of_lt_of_le (Heap.lt_size (k0 b o q)) hb) (Nat.lt_irrefl _)
  refine take_in (s := { s with heap := s.heap.push { cls := .type "list_iterator", data := .fields #[.ref l, .int 0 0] } }) W away few val tk S0 (fun b hb => beyond b (by rw [List.mem_singleton.mp hb]; exact Nat.le_refl _)) (by show A.units + 1 + 1 < cLine; omega) (fun s' L es ep t hm hS' g k => ?_) ks.length 0 _ (Nat.zero_add _)
    ⟨⟨_, Heap.get?_push_size _ rfl, rfl, rfl⟩, hl.push _⟩ (Moved.refl fun _ => rfl) (fun b o e => Heap.get?_push_of_some _ (k0 b o e)) ⟨[], #[], 0, _, ms_new (Heap.get?_push_of_some _ hS), ⟨(fun p h => nomatch h), fun p h => by simp at h⟩⟩
  obtain ⟨h', g2, d', tk', os'⟩ := s'
  cases (show g2 = s.gens from hm.gens)
  cases (show d' = s.drawn from hm.drawn)
  cases (show os' = s.os from hm.os)
  refine wpAny_pure ?_
  show wpAny _ _ (ret Value.none) _ _ _
  refine wpAny_pure (hq h' tk' L es ep t hS' g fun b o hbS e => ?_)
  refine hm.heap b o (fun z => ?_) (Heap.get?_push_of_some _ e)
  rcases List.mem_cons.mp z with e2 | e2
  · exact hbS e2
  · exact Nat.ne_of_lt (Heap.lt_size e) (List.mem_singleton.mp e2)
/-- set(l) -/
theorem set_tks {l : Addr} {items : Array Value} (ks : List Pr) {Q : Value → Shared → Prop} (hh : A.handled = none) (hl : s.heap.IsList l items) (hit : items.toList = ks.map fun p => Value.ref p.1) (few : ks.length < 64) (hu : A.units + 8 < cLine) (tk : ∀ p ∈ ks, Tk P w s.heap p)
    (h : ∀ (h' : Heap) (tk : Nat) L es ep t, Ms P w h' s.heap.objs.size L es ep t → InBy ks ks.length L → (∀ b o, s.heap.get? b = some o → h'.get? b = some o) → Q (.ref s.heap.objs.size) { s with heap := h', toks := tk }) :
    wpAny (model P w) A (call (.type "set") [.ref l]) Q E s := by
  have C := F.called_set
  obtain ⟨c0, tl, hmro⟩ := C.mro
  have f1 := C.made
  have f2 := C.sub
  have f3 := C.notType
  have f4 := C.canCreate
  have f5 := F.typeCall_set_1 (.ref l)
  refine wpAny_call (codeAny_of_tree (wpAny_pure ⟨Code.quiet_builtin _ (by decide +kernel), codeAny_builtin F.entry_type_call ?_⟩))
  rw [Around.under_plain (weight_type_call_type "set" [.ref l] []) rfl]
  repeat (any_goals (first | assumption | wp_step))
  refine codeAny_mono (code_set_led1 (.ref l) (E := E) (Q₁ := fun v s1 => v = .ref s.heap.objs.size ∧ s1 = { s with heap := s.heap.push (newSet w) }) ⟨rfl, rfl⟩) ?_
  rintro (e | fl) s1 z
  · exact z
  · cases fl <;> first | exact z.elim | skip
    obtain ⟨rfl, rfl⟩ := z
    have g1 : (s.heap.push (newSet w)).get? s.heap.objs.size = some (newSet w) := Heap.get?_push_size _ rfl
    have g2 : Shared.TypeIs { s with heap := s.heap.push (newSet w) } (.ref s.heap.objs.size) "set" := ⟨_, g1, rfl⟩
    have g3 := C.init.lookup
    have g4 := C.init.bind (.ref s.heap.objs.size)
    repeat (any_goals (first | assumption | wp_step))
    have S0 : s.heap.get? s.heap.objs.size = none := by
      cases q : s.heap.get? s.heap.objs.size with
      | none => rfl
      | some o => exact absurd (Heap.lt_size q) (Nat.lt_irrefl _)
    refine init_tks (s := { s with heap := s.heap.push (newSet w) }) (h0 := s.heap) ks (by simp [hh]) (hl.push _) hit few (by show A.units + 1 + 3 < cLine; omega) tk S0 (fun b o e => Heap.get?_push_of_some _ e) g1 ?_ fun h' tk L es ep t R g k => ?_
    · obtain ⟨o, ho, _⟩ := hl
      exact (Nat.ne_of_lt (Heap.lt_size ho)).symm
    · show wpAny _ _ (pure _) _ _ _
      repeat (any_goals (first | assumption | wp_step))
      exact h h' tk L es ep t R g fun b o e => k b o (Nat.ne_of_lt (Heap.lt_size e)) (Heap.get?_push_of_some _ e)
end

theorem perm_of {α : Type} : ∀ {l D : List α}, l.Nodup → (∀ x ∈ l, x ∈ D) → l.length = D.length → l.Perm D
  | [], D, _, _, e => by
    rw [List.eq_nil_of_length_eq_zero e.symm]
  | x :: l, D, nd, h, e => by
    obtain ⟨n1, n2⟩ := List.nodup_cons.mp nd
    obtain ⟨a, b, rfl⟩ := List.append_of_mem (h x List.mem_cons_self)
    have z := perm_of (D := a ++ b) n2 (fun y hy => by
      rcases List.mem_append.mp (h y (List.mem_cons_of_mem _ hy)) with q | q
      · exact List.mem_append_left _ q
      · rcases List.mem_cons.mp q with q | q
        · exact absurd (q ▸ hy) n1
        · exact List.mem_append_right _ q) (by
      rw [List.length_append, List.length_cons, List.length_cons] at e
      rw [List.length_append]
      omega)
    exact (z.cons x).trans List.perm_middle.symm
theorem count_of {ks L : List Pr} (g : InBy ks ks.length L) (one : (L.map Prod.snd).Nodup) : L.length = ks.length ↔ (ks.map Prod.snd).Nodup := by
  have sub : ∀ p ∈ L, p ∈ ks := fun p hp => List.mem_of_mem_take (g.only p hp)
  have s2 : ∀ c ∈ L.map Prod.snd, c ∈ ks.map Prod.snd := fun c hc => by
    obtain ⟨p, hp, rfl⟩ := List.mem_map.mp hc
    exact List.mem_map_of_mem (sub p hp)
  have s3 : ∀ c ∈ ks.map Prod.snd, c ∈ L.map Prod.snd := fun c hc => by
    obtain ⟨p, hp, rfl⟩ := List.mem_map.mp hc
    exact g.each p (by rw [List.take_length]; exact hp)
  constructor
  · intro e
    exact (perm_of one s2 (by rw [List.length_map, List.length_map]; exact e)).nodup_iff.mp one
  · intro nd
    have a := g.short one
    have b : (ks.map Prod.snd).length ≤ (L.map Prod.snd).length := by
      have key : ∀ {l D : List (List Key)}, l.Nodup → (∀ x ∈ l, x ∈ D) → l.length ≤ D.length := by
        intro l
        induction l with
        | nil => exact fun _ _ => Nat.zero_le _
        | cons x l ih =>
          intro D nd h
          obtain ⟨n1, n2⟩ := List.nodup_cons.mp nd
          obtain ⟨a, b, rfl⟩ := List.append_of_mem (h x List.mem_cons_self)
          have z := ih (D := a ++ b) n2 fun y hy => by
            rcases List.mem_append.mp (h y (List.mem_cons_of_mem _ hy)) with q | q
            · exact List.mem_append_left _ q
            · rcases List.mem_cons.mp q with q | q
              · exact absurd (q ▸ hy) n1
              · exact List.mem_append_right _ q
          rw [List.length_append] at z
          rw [List.length_append, List.length_cons, List.length_cons]
          omega
      exact key nd s3
    rw [List.length_map, List.length_map] at b
    omega
theorem keys_of {P : Program} {w : World} : ∀ {c : List Key} {us : List Value}, Vals (c.map kV) us → ItemsAre (mixKind P w) c us
  | [], _, .nil => .nil
  | k :: c, _, .cons r t => .cons (kV_is r) (keys_of t)
section
variable {X : Cx}
theorem tk_at {pins : List (Addr × Obj)} {σ : L2.St} {H : Hp} {s : Shared} {p : Pr} (I : Inv X pins σ H s) (h : SqT X.K H p.1 (p.2.map kV)) : Tk X.prog X.w s.heap p := by
  obtain ⟨its, r, ⟨o, ho, hc, n, hd⟩, _⟩ := I.tuple h
  exact ⟨o, its.toArray, n, ho, hc, hd, by simpa using keys_of r⟩
theorem refs_at : ∀ {ks : List Pr} {us : List Value}, Vals (ks.map fun p => V.ref p.1) us → us = ks.map fun p => Value.ref p.1
  | [], _, .nil => rfl
  | p :: ks, _, .cons r t => by
    cases r
    rw [refs_at t]
    rfl
/-- len(set(xs)): as many as there are unlike tuples -/
def tLenM (K : PySem.W.Frag) (ta : TE) : TE := fun σ H Q => ta σ H fun x H1 => ∃ (l : Addr) (ks : List Pr), x = .ref l ∧ SqL K H1 l (ks.map fun p => V.ref p.1) ∧ (∀ p ∈ ks, SqT K H1 p.1 (p.2.map kV)) ∧ ks.length < 64 ∧
  ∀ m : Nat, (m = ks.length ↔ (ks.map Prod.snd).Nodup) → Q (.int m) H1
theorem pe_lenM {a : Expr} {ta : TE} {p p2 q pos : Pos} (hc : X.calm = true) (hu : X.A.units + 64 < cLine) (hg : Gl X "len") (hm : X.mg "len" = none) (hg2 : Gl X "set") (hm2 : X.mg "set" = none) (ha : PE X a ta)
    (na : starEach [a] X.env = (false, eval a X.env) :: starEach [] X.env := by rfl) : PE X (.Call (.Name "len" p) [.Call (.Name "set" p2) [a] [] q] [] pos) (tLenM X.K ta) := by
  refine ⟨fun pins s σ H Q I h => ?_⟩
  refine Call_ (ld_blt I hg hm boot_len ?_)
  refine PyProof.Rows.callWith_builtin1 (PyProof.Rows.args_cons ?_ rfl) rfl rfl
  refine Call_ (ld_blt I hg2 hm2 boot_set ?_)
  refine PyProof.Rows.callWith_type1 (PyProof.Rows.args_cons (thn (ha.run pins s σ H _ I h) fun v s1 ⟨x, H1, I1, r1, q1⟩ => PyProof.Rows.args_nil ?_) na) na rfl
  obtain ⟨l, ks, rfl, hl, hk, few, q2⟩ := q1
  cases r1
  obtain ⟨its, rv, pl, hz⟩ := I1.list hl
  refine set_tks (P := X.prog) (w := X.w) ks (I1.ok.hd hc) pl.isList (by simpa using refs_at rv) few (by omega) (fun p hp => tk_at I1 (hk p hp)) fun h' tk L es ep t R g k => PyProof.Rows.args_nil ?_
  have I2 : Inv X pins σ H1 { s1 with heap := h', toks := tk } := I1.kept (t' := tk) k
  obtain ⟨o, ho, hex, hd⟩ := R.at_
  have hn : es.size = L.length := row_size R.row
  have fw := R.few
  refine call_len_set ho hex hd R.fit (by omega) ⟨.int L.length, H1, I2.tok _, ⟨_, by rw [hn]⟩, q2 L.length (count_of g R.one)⟩
end
end Rw
/-! own layer: enumerate(t), t a tuple -/
namespace Rw
open PySem PySem.Spec PySem.Calls PyProof.Rows L2
theorem meets_enumT (l : Addr) (items : Array Value) (n : Nat) (dct : Option Addr) (sl : Array (Option Value)) :
    Meets (Builtin.«enumerate.__new__» ⟨[.type "enumerate", .ref l], []⟩) (fun _ R s => s.heap.get? l = some { cls := .type "tuple", dict := dct, data := .seq items n, slots := sl } ∧
      R (.ok (.ret (.ref (s.heap.objs.size + 1)))) { s with heap := (s.heap.push { cls := .type "tuple_iterator", data := .fields #[.ref l, .int 0 0] }).push { cls := .type "enumerate", data := .fields #[.none, .bool false, .ref s.heap.objs.size, rawInt 0, .none, .none] } }) :=
  .of_wp fun prog w A R s h => by
    obtain ⟨hp, g, d, tk, os⟩ := s
    obtain ⟨hl, h⟩ := h
    rw [← Heap.size_push hp { cls := .type "tuple_iterator", data := .fields #[.ref l, .int 0 0] }] at h
    have sub := sub_enumerate
    have tup : Heap.IsTuple hp l items := ⟨_, hl, rfl, n, rfl⟩
    wp_walk using AutoSeq1.wpAny_loadPart' hl
    refine wpAny_stack_any fun st => wpAny_pure ?_
    split
    · rename_i c _ _ _ _ _
      cases (c == Value.type "enumerate") <;> (wp_walk using AutoSeq1.wpAny_loadPart' hl, wpAny_pyIter_tuple tup; exact ⟨_, rfl, h⟩)
    · wp_walk using AutoSeq1.wpAny_loadPart' hl, wpAny_pyIter_tuple tup
      exact ⟨_, rfl, h⟩
section
variable {P : Program} {w : World} {A : Around} {E : Value → Shared → Prop} {s : Shared}
theorem call_enumT {l : Addr} {items : Array Value} {Q : Value → Shared → Prop} (tup : s.heap.IsTuple l items)
    (q : ∀ h', IsEnum h' (s.heap.objs.size + 1) s.heap.objs.size 0 .none → h'.IsTupleIter s.heap.objs.size l 0 → (∀ b o, s.heap.get? b = some o → h'.get? b = some o) → Q (.ref (s.heap.objs.size + 1)) { s with heap := h' }) :
    wpAny (model P w) A (call (.type "enumerate") [.ref l]) Q E s := by
  obtain ⟨⟨c, dct, dt, sl⟩, hl, hc, n, hd⟩ := tup
  cases (show c = .type "tuple" from hc)
  cases (show dt = .seq items n from hd)
  refine callType_new F.called_enumerate (by decide) (F.typeCall_enumerate_1 _) (F.newCall_enumerate_1 _) (fun obj => F.args_object_init_2 obj _) F.entry_enumerate_new (meets_enumT l items n dct sl) ⟨hl, ?_⟩
  have it : (s.heap.push { cls := .type "tuple_iterator", data := .fields #[.ref l, .int 0 0] }).get? s.heap.objs.size = some { cls := .type "tuple_iterator", data := .fields #[.ref l, .int 0 0] } := Heap.get?_push_size _ rfl
  have en : IsEnum ((s.heap.push { cls := .type "tuple_iterator", data := .fields #[.ref l, .int 0 0] }).push { cls := .type "enumerate", data := .fields #[.none, .bool false, .ref s.heap.objs.size, rawInt 0, .none, .none] }) (s.heap.objs.size + 1) s.heap.objs.size 0 .none := by
    rw [← Heap.size_push s.heap { cls := .type "tuple_iterator", data := .fields #[.ref l, .int 0 0] }]
    exact Heap.get?_push_size _ rfl
  exact ⟨⟨_, en, rfl⟩, q _ en ⟨_, Heap.get?_push_of_some _ it, rfl, rfl⟩ fun b o x => Heap.get?_push_of_some _ (Heap.get?_push_of_some _ x)⟩
end
/-- the tuple at a as it stands at each turn -/
def IteT (K : PySem.W.Frag) (a : Addr) : It :=
  ⟨fun i H => ∃ (xs : List V) (x : V), SqT K H a xs ∧ xs[i]? = some x, fun i H v H' => ∃ p x, v = .ref p ∧ H p = none ∧ H' = upd H p (.tup [.int (i : Nat), x]) ∧ ∀ xs, SqT K H a xs → xs[i]? = some x, fun i H => ∃ xs : List V, SqT K H a xs ∧ xs.length ≤ i⟩
theorem walk_enumT {K : PySem.W.Frag} {a : Addr} {xs : List V} : Walk (IteT K a) xs.length (fun H => SqT K H a xs) (YPair (fun i => some (.int (i : Nat))) (fun i => xs[i]?)) := by
  refine ⟨fun i _ hi q => ⟨xs, xs[i], q, by simp [hi]⟩, fun _ q => ⟨xs, q, Nat.le_refl _⟩, fun i H v H' _ q y => ?_⟩
  obtain ⟨p, x, h1, h2, h3, h4⟩ := y
  exact ⟨p, .int (i : Nat), x, h1, h2, h3, rfl, h4 xs q⟩

theorem turn_enumT {P : Program} {w : World} {K : PySem.W.Frag} {elts : List Expr} {kk : Nat} {tpos : Pos} (a e it : Addr) :
    Turn P w K (.Tuple elts kk tpos) (IteT K a) [e, it] e (fun i h => (∃ old, IsEnum h e it ((i : Nat) : Int) old) ∧ h.IsTupleIter it a i ∧ e ≠ it ∧ e ≠ a ∧ a ≠ it) where
  mem := by simp
  obj := fun i h st b hb => by
    obtain ⟨⟨old, he⟩, ⟨o, ho, _, hd⟩, _⟩ := st
    rcases List.mem_cons.mp hb with z | z
    · exact z ▸ ⟨_, he, fun v q => nomatch q⟩
    · rw [List.mem_singleton.mp z]
      exact ⟨o, ho, fun v q => by rw [hd] at q; cases q⟩
  keep := fun i h h' st k => by
    obtain ⟨⟨old, he⟩, ⟨o, ho, r⟩, n⟩ := st
    exact ⟨⟨old, k e (by simp) _ he⟩, ⟨o, k it (by simp) o ho, r⟩, n⟩
  item := by
    intro X hP hw hK hc i pins s σ H E I hf st hg
    subst hP hw hK
    obtain ⟨⟨old, he⟩, hit, n1, n2, n3⟩ := st
    obtain ⟨xs, x, hq, hx⟩ := hg
    obtain ⟨its, rv, tp, hz⟩ := I.tuple hq
    obtain ⟨u, hu, ru⟩ := rv.get hx
    have tp : s.heap.IsTuple a its.toArray := tp
    have hel : e < s.heap.objs.size := Heap.lt_size he
    have hil : it < s.heap.objs.size := by obtain ⟨_, q, _⟩ := hit; exact Heap.lt_size q
    have hlt : i < its.toArray.size := by
      rw [List.size_toArray]
      exact (List.getElem?_eq_some_iff.mp hu).1
    refine wpAny_pyNext_enum_itemD (Draws.tuple (prog := X.prog) (w := X.w) (A := X.A.in1) (by simp [I.ok.hd hc]) it a n3 its.toArray) he ⟨hit, tp⟩ hlt n1 (by simp [n1, n2]) fun v h' tk hv ho st' hT hsz hk => ?_
    have ev : v = u := by
      have z : its.toArray[i]? = some v := hv
      rw [show its.toArray[i]? = its[i]? by simp, hu] at z
      exact (Option.some.inj z).symm
    subst ev
    refine ⟨_, rfl, wpAny_letOwnedTupleGo_enum (s := { s with heap := h', toks := tk + 1 }) ho fun h2 he2 sb => ?_⟩
    have hT2 : h2.get? s.heap.objs.size = some { cls := .type "tuple", data := .seq #[.int i tk, v] } := (sb.2 _ (Nat.ne_of_gt hel)).trans hT
    have new : ObjOk X.prog X.w (upd H s.heap.objs.size (.tup [.int (i : Nat), x])) h2 s.heap.objs.size (.tup [.int (i : Nat), x]) :=
      ⟨by show 2 ≤ sizeLine; decide, [.int i tk, v], .cons ⟨_, rfl⟩ (.cons ru .nil), ⟨_, hT2, rfl, _, rfl⟩⟩
    have I1 : Inv X pins σ (upd H s.heap.objs.size (.tup [.int (i : Nat), x])) { s with heap := h2, toks := tk + 1 } :=
      I.turnedNew (ch := [e, it]) (fun b ob hb q => (sb.2 b (fun z => hb (by simp [z]))).trans (hk b ob (fun z => hb (by simp [z])) (fun z => hb (by simp [z])) q)) hf (Nat.le_refl _) new
    refine ⟨.ref s.heap.objs.size, _, I1, rfl, ⟨_, x, rfl, I.hok.fresh (Nat.le_refl _), rfl, fun ys hy => by rw [I.tuple_inj hy hq]; exact hx⟩, ⟨⟨v, ?_⟩, ?_, n1, n2, n3⟩, fun b hb => ?_⟩
    · have e1 : ((i + 1 : Nat) : Int) = (i : Int) + 1 := by omega
      rw [e1]
      exact he2
    · obtain ⟨o, go, r⟩ := st'.1
      exact ⟨o, (sb.2 it (Ne.symm n1)).trans go, r⟩
    · have hb2 : b < s.heap.objs.size := by
        rcases List.mem_cons.mp hb with z | z
        · exact z ▸ hel
        · exact List.mem_singleton.mp z ▸ hil
      rw [upd_ne (Nat.ne_of_lt hb2)]
      exact (hf b hb).1
  done := by
    intro X hP hw hK hc i pins s σ H E I hf st hg
    subst hP hw hK
    obtain ⟨⟨old, he⟩, hit, n1, n2, n3⟩ := st
    obtain ⟨xs, hq, hx⟩ := hg
    obtain ⟨its, rv, tp, hz⟩ := I.tuple hq
    have tp : s.heap.IsTuple a its.toArray := tp
    obtain ⟨f0, f1, f2, f3, f4, f5⟩ := hf it (by simp)
    have hl := rv.length
    have D := Draws.tuple (prog := X.prog) (w := X.w) (A := X.A.in1) (by simp [I.ok.hd hc]) it a n3 its.toArray
    refine wpAny_pyNext_enum_endD (n := i) (fp := [it, a]) (P := fun _ _ => True) (St := fun j h => j = i ∧ h.IsTupleIter it a j ∧ h.IsTuple a its.toArray) ⟨fun _ _ st => let ⟨o, ho, _⟩ := st.2.1; ⟨o, ho⟩, fun j h h' st k => ⟨st.1, D.frame j h h' st.2 k⟩,
      fun j s Q E hj st q => absurd hj (by rw [st.1]; exact Nat.lt_irrefl _), fun s Q E st q => ?_⟩ he ⟨rfl, hit, tp⟩ fun h' eb => ⟨rfl, I.turned (t' := s.toks) (fun b o hb q => eb b o hb q) f0 f1 f3 f4 f5⟩
    exact wpAny_nextOf_tuple_end (by simp [I.ok.hd hc]) st.2.1 st.2.2 (by simp; omega) q
  self := fun A i s Q E st h => let ⟨⟨_, he⟩, _⟩ := st; wpAny_pyIter_enum he h
def iEnumT (K : PySem.W.Frag) (ta : TA) : TI := fun σ H R => ta σ H fun vs H1 => ∃ a xs, vs = [.ref a] ∧ SqT K H1 a xs ∧ R (IteT K a) H1
theorem pi_enumT {X : Cx} {e : Expr} {ta : TA} {p pos tpos : Pos} {elts : List Expr} {kk : Nat} (hg : Gl X "enumerate") (hm : X.mg "enumerate" = none) (ha : PA X [e] ta) (hs : starEach [e] X.env = [(false, eval e X.env)] := by rfl) :
    PI X (.Tuple elts kk tpos) (.Call (.Name "enumerate" p) [e] [] pos) (iEnumT X.K ta) := by
  refine ⟨fun pins s σ H R I h => ?_⟩
  refine Call_ (ld_blt I hg hm boot_enumerate (PyProof.Rows.callWith_type1 (thn (ha.run pos pins s σ H _ I h) fun us s1 ⟨vs, H1, I1, r1, q1⟩ => ?_) hs rfl))
  obtain ⟨a, xs, rfl, hq, q⟩ := q1
  rw [Vals.ref1 r1]
  obtain ⟨its, rv, tp, hz⟩ := I1.tuple hq
  have al : a < s1.heap.objs.size := by obtain ⟨_, z, _⟩ := tp; exact Heap.lt_size z
  refine call_enumT (show s1.heap.IsTuple a its.toArray from tp) fun h' he hit hk => wpAny_pyIter_enum he ?_
  refine ⟨s1.heap.objs.size + 1, [s1.heap.objs.size + 1, s1.heap.objs.size], _, _, H1, rfl, I1.kept (t' := s1.toks) hk, turn_enumT a (s1.heap.objs.size + 1) s1.heap.objs.size, ⟨⟨.none, he⟩, hit, Nat.succ_ne_self _, Nat.ne_of_gt (Nat.lt_succ_of_lt al), Nat.ne_of_lt al⟩, fun b hb => ?_, q⟩
  have hle : s1.heap.objs.size ≤ b := by
    rcases List.mem_cons.mp hb with z | z
    · exact z ▸ Nat.le_succ _
    · exact List.mem_singleton.mp z ▸ Nat.le_refl _
  exact I1.fpOk hle (I1.hok.fresh hle)
end Rw
/-! own layer: comprehensions as lists of data -/
namespace Rw
open PySem PySem.Spec PyProof.Rows L2
abbrev N0 : Addr → Prop := fun _ => False
/-! data without lists -/
mutual
def tupo : PyData → Bool
  | .none | .bool _ | .int _ | .str _ => true
  | .tuple ds => tupos ds
  | _ => false
def tupos : List PyData → Bool
  | [] => true
  | d :: ds => tupo d && tupos ds
end
mutual
theorem Dm.off {M : Addr → Prop} {H : Hp} (hM : ∀ a, M a → ∀ xs, H a ≠ some (.tup xs)) : ∀ (d : PyData) (v : V), tupo d = true → Dm N0 H v d → Dm M H v d
  | .none, _, _, h => by cases h; exact .non
  | .bool _, _, _, h => by cases h; exact .bl _
  | .int _, _, _, h => by cases h; exact .int _
  | .str _, _, _, h => by cases h; exact .str _
  | .list _, _, t, _ => nomatch t
  | .tuple ds, _, t, h => by
    cases h with
    | tup _ ha hs => exact .tup (fun z => hM _ z _ ha) ha (DmAll.off hM ds _ t hs)
  | .dict _, _, t, _ => nomatch t
theorem DmAll.off {M : Addr → Prop} {H : Hp} (hM : ∀ a, M a → ∀ xs, H a ≠ some (.tup xs)) : ∀ (ds : List PyData) (vs : List V), tupos ds = true → DmAll N0 H vs ds → DmAll M H vs ds
  | [], _, _, h => by cases h; exact .nil
  | d :: ds, _, t, h => by
    have t2 : tupo d = true ∧ tupos ds = true := by
      have := t
      unfold tupos at this
      simpa using this
    cases h with
    | cons h1 h2 => exact .cons (Dm.off hM d _ t2.1 h1) (DmAll.off hM ds _ t2.2 h2)
end
theorem tupos_map {α : Type} {f : α → PyData} (h : ∀ a, tupo (f a) = true) : ∀ as : List α, tupos (as.map f) = true
  | [] => rfl
  | a :: as => by
    show (tupo (f a) && tupos (as.map f)) = true
    rw [h a, tupos_map h as]
    rfl
theorem Dm.on {M : Addr → Prop} {H : Hp} {v : V} {d : PyData} (h : Dm M H v d) : Dm N0 H v d := Dm.mv (fun _ _ e _ => ⟨e, id⟩) d v h
theorem DmAll.on {M : Addr → Prop} {H : Hp} {vs : List V} {ds : List PyData} (h : DmAll M H vs ds) : DmAll N0 H vs ds := DmAll.mv (fun _ _ e _ => ⟨e, id⟩) ds vs h
theorem Dm.same {M : Addr → Prop} {H H' : Hp} {v : V} {d : PyData} (h : Dm M H v d) (s : Same H H') : Dm M H' v d := Dm.mv (fun a o e m => ⟨s a o e, m⟩) d v h
theorem DmAll.same {M : Addr → Prop} {H H' : Hp} {vs : List V} {ds : List PyData} (h : DmAll M H vs ds) (s : Same H H') : DmAll M H' vs ds := DmAll.mv (fun a o e m => ⟨s a o e, m⟩) ds vs h
theorem DmAll.at_ {M : Addr → Prop} {H : Hp} : ∀ {ds : List PyData} {vs : List V} {i : Nat} {d : PyData}, DmAll M H vs ds → ds[i]? = some d → ∃ v, vs[i]? = some v ∧ Dm M H v d
  | [], _, _, _, _, h => nomatch h
  | e :: ds, vs, i, d, x, h => by
    cases x with
    | cons h1 h2 =>
      cases i with
      | zero => cases h; exact ⟨_, rfl, h1⟩
      | succ i =>
        obtain ⟨u, z1, z2⟩ := DmAll.at_ (i := i) (d := d) h2 h
        exact ⟨u, z1, z2⟩
theorem DmAll.of_at {M : Addr → Prop} {H : Hp} {vs : List V} {ds : List PyData} {i : Nat} {v : V} (h : DmAll M H vs ds) (e : vs[i]? = some v) : ∃ d, ds[i]? = some d ∧ Dm M H v d := by
  have hl := h.len
  have hi := (List.getElem?_eq_some_iff.mp e).1
  obtain ⟨v', e2, h2⟩ := h.at_ (List.getElem?_eq_getElem (hl ▸ hi))
  rw [e] at e2
  cases e2
  exact ⟨_, List.getElem?_eq_getElem (hl ▸ hi), h2⟩
/-- the list at D has these data, of which nothing is D -/
def Has (H : Hp) (D : Addr) (ds : List PyData) : Prop := ∃ ys, H D = some (.lst ys) ∧ DmAll (· = D) H ys ds
theorem Has.nil {H : Hp} {D : Addr} : Has (upd H D (.lst [])) D [] := ⟨[], upd_same, .nil⟩
theorem Has.same {H H' : Hp} {D : Addr} {ds : List PyData} (h : Has H D ds) (s : Same H H') : Has H' D ds := let ⟨ys, e, h⟩ := h; ⟨ys, s _ _ e, h.same s⟩
theorem Has.add {H H4 : Hp} {D : Addr} {ds : List PyData} {y : V} {d : PyData} (h : Has H D ds) (s : Same H H4) (hy : Dm N0 H4 y d) (t : tupo d = true) (n : ds.length < 1000000) : ∃ acc, H4 D = some (.lst acc) ∧ acc.length < sizeLine ∧ Has (upd H4 D (.lst (acc ++ [y]))) D (ds ++ [d]) := by
  obtain ⟨ys, e, h⟩ := h.same s
  refine ⟨ys, e, by rw [h.len, sizeLine_eq]; omega, _, upd_same, DmAll.app (DmAll.mv (fun a o q m => ⟨(upd_ne m).trans q, m⟩) _ _ h) (.cons (Dm.mv (fun a o q m => ⟨(upd_ne m).trans q, m⟩) _ _ (Dm.off (fun a z xs q => ?_) d y t hy)) .nil)⟩
  rw [z, e] at q
  cases q
theorem Same.put {H1 H4 : Hp} {D : Addr} {o : HO} (hD : H1 D = none) (s : Same H1 H4) : Same H1 (upd H4 D o) := fun b u e => (upd_ne (ne_of_none e hD)).trans (s b u e)
section
variable {J : It} {G : Hp → Prop} {Y : Nat → Hp → V → Hp → Prop} {α : Type}
/-- [e for x in xs if t]: f a for those items a that are kept -/
theorem lcA {as : List α} (w : Walk J as.length G Y) {g : TG} {tt : TT} {te : TE} {vs : List Nat} {σ : L2.St} {H1 : Hp} {D : Addr} {Qd : Hp → Prop} (f : α → PyData) (keep : α → Bool) (hG : ∀ H', Same H1 H' → G H') (hn : as.length ≤ 1000000) (hD : H1 D = none)
    (tp : ∀ a, tupo (f a) = true)
    (turn : ∀ (Nx : Hp → Prop) i a x H H', as[i]? = some a → Same H1 H → Y i H x H' → (∀ y H4, keep a = true → Same H H4 → Dm N0 H4 y (f a) → ∃ acc, H4 D = some (.lst acc) ∧ acc.length < sizeLine ∧ Nx (upd H4 D (.lst (acc ++ [y])))) → (∀ H4, keep a = false → Same H H4 → Nx H4) →
      g x (wipe σ vs) H' fun σ2 H2 => wipe σ2 vs = wipe σ vs ∧ tt σ2 H2 fun b H3 => if b = true then te σ2 H3 fun y H4 => ∃ acc, H4 D = some (.lst acc) ∧ acc.length < sizeLine ∧ Nx (upd H4 D (.lst (acc ++ [y]))) else Nx H3)
    (fin : ∀ H' ys, Same H1 H' → H' D = some (.lst ys) → DmAll N0 H' ys ((as.filter keep).map f) → Qd H') :
    ∃ W : Nat → Nat → Hp → Prop, (∃ m, W 0 m (upd H1 D (.lst []))) ∧ ∀ i m H, W i m H →
      (J.stop i H ∧ Qd H) ∨ (J.go i H ∧ ∃ Nx : Hp → Prop, (∀ H', Nx H' → ∃ m', m' < m ∧ W (i + 1) m' H') ∧ ∀ x H', J.yld i H x H' → g x (wipe σ vs) H' fun σ2 H2 => wipe σ2 vs = wipe σ vs ∧ tt σ2 H2 fun b H3 =>
        if b = true then te σ2 H3 fun y H4 => ∃ acc, H4 D = some (.lst acc) ∧ acc.length < sizeLine ∧ Nx (upd H4 D (.lst (acc ++ [y]))) else Nx H3) := by
  refine lc_it w (fun i H => Same H1 H ∧ Has H D (((as.take i).filter keep).map f)) ⟨same_new hD, Has.nil⟩ (fun i H _ p => hG H p.1) (fun i x H H' hi p y => ?_) fun H p => ?_
  · obtain ⟨a, ha⟩ : ∃ a, as[i]? = some a := ⟨_, List.getElem?_eq_getElem hi⟩
    have e : as.take (i + 1) = as.take i ++ [a] := by rw [List.take_add_one, ha]; rfl
    refine turn _ i a x H H' ha p.1 y (fun y2 H4 k s d => ?_) fun H4 k s => ?_
    · have hl : (((as.take i).filter keep).map f).length < 1000000 := by
        rw [List.length_map]
        have := List.length_filter_le keep (as.take i)
        have := List.length_take_le i as
        omega
      obtain ⟨acc, a1, a2, a3⟩ := p.2.add s d (tp a) hl
      refine ⟨acc, a1, a2, Same.put hD (p.1.trans s), ?_⟩
      rw [e, List.filter_append, List.map_append]
      simpa [List.filter, k] using a3
    · refine ⟨p.1.trans s, ?_⟩
      rw [e, List.filter_append, List.map_append]
      simpa [List.filter, k] using p.2.same s
  · obtain ⟨s, ys, e, h⟩ := p
    rw [List.take_length] at h
    exact fin H ys s e h.on
/-- the inner walk of [e for x in xs for y in ys if t] -/
theorem inA {bs : List α} (w : Walk J bs.length G Y) {g1 : TG} {tt1 : TT} {te : TE} {vs1 : List Nat} {σ2 : L2.St} {H0 H1 : Hp} {D : Addr} {Nx : Hp → Prop} (f : α → PyData) (keep : α → Bool) (pre : List PyData) (hG : ∀ H', (∀ a o, a ≠ D → H1 a = some o → H' a = some o) → G H') (hn : pre.length + bs.length ≤ 1000000) (hD : H0 D = none)
    (tp : ∀ a, tupo (f a) = true) (h0 : Same H0 H1) (h1 : Has H1 D pre)
    (turn : ∀ (N1 : Hp → Prop) i a x H H', bs[i]? = some a → Same H0 H → (∀ a o, a ≠ D → H1 a = some o → H a = some o) → Y i H x H' → (∀ y H4, keep a = true → Same H H4 → Dm N0 H4 y (f a) → ∃ acc, H4 D = some (.lst acc) ∧ acc.length < sizeLine ∧ N1 (upd H4 D (.lst (acc ++ [y])))) → (∀ H4, keep a = false → Same H H4 → N1 H4) →
      g1 x (wipe σ2 vs1) H' fun σ3 H5 => wipe σ3 vs1 = wipe σ2 vs1 ∧ tt1 σ3 H5 fun b H6 => if b = true then te σ3 H6 fun y H7 => ∃ acc, H7 D = some (.lst acc) ∧ acc.length < sizeLine ∧ N1 (upd H7 D (.lst (acc ++ [y]))) else N1 H6)
    (fin : ∀ H', Same H0 H' → Has H' D (pre ++ (bs.filter keep).map f) → Nx H') :
    ∃ W1 : Nat → Nat → Hp → Prop, (∃ m, W1 0 m H1) ∧ ∀ j k H, W1 j k H →
      (J.stop j H ∧ Nx H) ∨ (J.go j H ∧ ∃ Nx1 : Hp → Prop, (∀ H', Nx1 H' → ∃ k', k' < k ∧ W1 (j + 1) k' H') ∧ ∀ x H', J.yld j H x H' → g1 x (wipe σ2 vs1) H' fun σ3 H5 => wipe σ3 vs1 = wipe σ2 vs1 ∧ tt1 σ3 H5 fun b H6 =>
        if b = true then te σ3 H6 fun y H7 => ∃ acc, H7 D = some (.lst acc) ∧ acc.length < sizeLine ∧ Nx1 (upd H7 D (.lst (acc ++ [y]))) else Nx1 H6) := by
  let Pv : Nat → Hp → Prop := fun i H => (Same H0 H ∧ ∀ a o, a ≠ D → H1 a = some o → H a = some o) ∧ Has H D (pre ++ ((bs.take i).filter keep).map f)
  refine ⟨fun i m H => m = bs.length - i ∧ i ≤ bs.length ∧ Pv i H, ⟨bs.length, by simp, Nat.zero_le _, ⟨h0, fun _ _ _ e => e⟩, by simpa using h1⟩, ?_⟩
  rintro i m H ⟨rfl, hi, p⟩
  have q := hG H p.1.2
  by_cases hlt : i < bs.length
  · refine .inr ⟨w.goes i H hlt q, Pv (i + 1), fun H' p' => ⟨bs.length - (i + 1), by omega, rfl, hlt, p'⟩, fun x H' y => ?_⟩
    obtain ⟨a, ha⟩ : ∃ a, bs[i]? = some a := ⟨_, List.getElem?_eq_getElem hlt⟩
    have e : bs.take (i + 1) = bs.take i ++ [a] := by rw [List.take_add_one, ha]; rfl
    refine turn _ i a x H H' ha p.1.1 p.1.2 (w.yields i H x H' hlt q y) (fun y2 H4 k s d => ?_) fun H4 k s => ?_
    · have hl : (pre ++ ((bs.take i).filter keep).map f).length < 1000000 := by
        rw [List.length_append, List.length_map]
        have := List.length_filter_le keep (bs.take i)
        have := List.length_take_le i bs
        omega
      obtain ⟨acc, a1, a2, a3⟩ := p.2.add s d (tp a) hl
      refine ⟨acc, a1, a2, ⟨Same.put hD (p.1.1.trans s), fun b o nb e => (upd_ne nb).trans (s b o (p.1.2 b o nb e))⟩, ?_⟩
      rw [e, List.filter_append, List.map_append]
      simpa [List.filter, k] using a3
    · refine ⟨⟨p.1.1.trans s, fun b o nb e => s b o (p.1.2 b o nb e)⟩, ?_⟩
      rw [e, List.filter_append, List.map_append]
      simpa [List.filter, k] using p.2.same s
  · have e : i = bs.length := by omega
    subst e
    refine .inl ⟨w.stops H q, fin H p.1.1 ?_⟩
    have := p.2
    rwa [List.take_length] at this
end
end Rw
/-! own layer: what is a whole number, a sequence -/
namespace Rw
open PySem PySem.Spec PyProof.Rows L2
theorem _root_.L2.TyX.same {K : PySem.W.Frag} {H H' : Hp} {v : V} {t : Value} (h : TyX K H v t) (s2 : Same H H') : TyX K H' v t := by
  cases h with
  | base b =>
    cases b with
    | lst e => exact .base (.lst (s2 _ _ e))
    | frz e => exact .base (.frz (s2 _ _ e))
    | tup e => exact .base (.tup (s2 _ _ e))
    | dK e => exact .base (.dK (s2 _ _ e))
    | dT e => exact .base (.dT (s2 _ _ e))
    | ins e cl ha hn htk hm => exact .base (.ins (s2 _ _ e) cl ha hn htk hm)
    | _ => exact .base (by constructor)
  | byt b => exact .byt b
  | set e => exact .set (s2 _ _ e)
  | kList e c => exact .kList e c
  | kTuple e c => exact .kTuple e c
  | kDict e c => exact .kDict e c
  | fTuple e => exact .fTuple (s2 _ _ e)
  | fDict e => exact .fDict (s2 _ _ e)
def isI : V → Bool | .int _ => true | .bl _ => true | _ => false
def isB : V → Bool | .bl _ => true | _ => false
/-- what isinstance(v, int), isinstance(v, bool) say -/
def Kd (K : PySem.W.Frag) (H : Hp) (v : V) : Prop := ∃ t, TyX K H v t ∧ PySem.W.kitOne K t (.type "int") = some (isI v) ∧ PySem.W.kitOne K t (.type "bool") = some (isB v)
def whole (v : V) (m : Int) : Bool := match v with | .int i => decide (m ≤ i) | _ => false
def spIsInt (K : PySem.W.Frag) : Sp := fun vs H Q _ => ∃ v m, vs = [v, .int m] ∧ Kd K H v ∧ Q (.bl (whole v m)) H
def spIsNum (K : PySem.W.Frag) : Sp := fun vs H Q _ => ∃ v, vs = [v] ∧ Kd K H v ∧ Q (.bl (whole v 0)) H
def spIsSeq (K : PySem.W.Frag) : Sp := fun vs H Q _ => ∃ v t b, vs = [v] ∧ TyX K H v t ∧ PySem.W.kitAny K t [.type "list", .type "tuple"] = some b ∧ ∀ H', Same H H' → Q (.bl b) H'

theorem kd_int {K : PySem.W.Frag} {H : Hp} (i : Int) : Kd K H (.int i) := ⟨.type "int", .base (.int i), kit_ty (r := true) (by decide +kernel), kit_ty (r := false) (by decide +kernel)⟩
theorem kit_list {K : PySem.W.Frag} : PySem.W.kitAny K (.type "list") [.type "list", .type "tuple"] = some true := kitAny_cons (kit_ty (b := "list") (r := true) (by decide +kernel)) (fun z => nomatch z) fun _ => rfl
theorem kit_tuple {K : PySem.W.Frag} : PySem.W.kitAny K (.type "tuple") [.type "list", .type "tuple"] = some true := kitAny_cons (kit_ty (b := "list") (r := false) (by decide +kernel)) (fun _ => kitAny_cons (kit_ty (b := "tuple") (r := true) (by decide +kernel)) (fun z => nomatch z) fun _ => rfl) fun z => nomatch z
end Rw
namespace Rw
open PySem PySem.Spec PyProof.Rows L2
theorem bools_of {M : Addr → Prop} {H : Hp} : ∀ {bs : List Bool} {ys : List V}, DmAll M H ys (bs.map PyData.bool) → ys = bs.map V.bl
  | [], _, h => by cases h; rfl
  | b :: bs, _, h => by
    cases h with
    | cons h1 h2 => cases h1; rw [bools_of h2]; rfl
theorem ints_of {M : Addr → Prop} {H : Hp} : ∀ {ns : List Int} {ys : List V}, DmAll M H ys (ns.map PyData.int) → ys = ns.map V.int
  | [], _, h => by cases h; rfl
  | b :: bs, _, h => by
    cases h with
    | cons h1 h2 => cases h1; rw [ints_of h2]; rfl
def lettersS : Str := "abcdefghijklmnopqrstuvwxyz"
/-- 1 to 4 letters -/
def nmB (x : Str) : Bool := decide (1 ≤ (x.length : Int) ∧ (x.length : Int) ≤ 4) && x.cps.toList.all fun c => decide (c ∈ lettersS.cps.toList)
def spName : Sp := fun vs H Q _ => ∃ x : Str, vs = [.str x] ∧ x.length ≤ 1000 ∧ ∀ H', Same H H' → Q (.bl (nmB x)) H'
end Rw
namespace Rw
open PySem PySem.Spec PyProof.Rows L2
/-- a match: day, side, side -/
abbrev Mt3 := Int × Str × Str
def mD (m : Mt3) : PyData := .tuple [.int m.1, .str m.2.1, .str m.2.2]
def okM (D : Int) (m : Mt3) : Bool := decide (0 ≤ m.1) && decide (m.1 < D) && nmB m.2.1 && nmB m.2.2
def spMatch : Sp := fun vs H Q _ => ∃ (v : V) (D : Int) (m : Mt3), vs = [v, .int D] ∧ Dm N0 H v (mD m) ∧ m.2.1.length ≤ 1000 ∧ m.2.2.length ≤ 1000 ∧ ∀ H', Same H H' → Q (.bl (okM D m)) H'
theorem mD_inv {M : Addr → Prop} {H : Hp} {v : V} {m : Mt3} (h : Dm M H v (mD m)) : ∃ a, v = .ref a ∧ H a = some (.tup [.int m.1, .str m.2.1, .str m.2.2]) := by
  unfold mD at h
  cases h with
  | tup _ e hs =>
    cases hs with
    | cons h1 hs =>
      cases h1
      cases hs with
      | cons h1 hs =>
        cases h1
        cases hs with
        | cons h1 hs =>
          cases h1
          cases hs
          exact ⟨_, rfl, e⟩
theorem mD_of {H : Hp} {a : Addr} {m : Mt3} (h : H a = some (.tup [.int m.1, .str m.2.1, .str m.2.2])) : Dm N0 H (.ref a) (mD m) := .tup id h (.cons (.int _) (.cons (.str _) (.cons (.str _) .nil)))
end Rw
namespace Rw
open PySem PySem.Spec PyProof.Rows L2
theorem nq {α : Type} [DecidableEq α] {a b : α} {p : Prop} (z : (!decide (a = b)) = true) (e : a = b) : p := by subst e; simp at z
/-- b && .. as it is read -/
theorem yn {b : Bool} {p q : Prop} (hp : b = true → p) (hq : b = false → q) : if b = true then p else q := by
  cases b with
  | true => exact hp rfl
  | false => exact hq rfl
end Rw
namespace Rw
open PySem PySem.Spec PyProof.Rows L2
/-- the outer walk of a comprehension with two fors: F a is what item a adds -/
theorem lcO {α : Type} {J : It} {G : Hp → Prop} {Y : Nat → Hp → V → Hp → Prop} {as : List α} (w : Walk J as.length G Y) {B : V → Hp → (Hp → Prop) → Prop} {H1 : Hp} {D : Addr} {Qd : Hp → Prop} (F : α → List PyData) (hG : ∀ H', Same H1 H' → G H') (hD : H1 D = none)
    (turn : ∀ (Nx : Hp → Prop) i a x H H', as[i]? = some a → Same H1 H → Has H D ((as.take i).flatMap F) → Y i H x H' → (∀ H4, Same H1 H4 → Has H4 D ((as.take i).flatMap F ++ F a) → Nx H4) → B x H' Nx)
    (fin : ∀ H' ys, Same H1 H' → H' D = some (.lst ys) → DmAll N0 H' ys (as.flatMap F) → Qd H') :
    ∃ W : Nat → Nat → Hp → Prop, (∃ m, W 0 m (upd H1 D (.lst []))) ∧ ∀ i m H, W i m H →
      (J.stop i H ∧ Qd H) ∨ (J.go i H ∧ ∃ Nx : Hp → Prop, (∀ H', Nx H' → ∃ m', m' < m ∧ W (i + 1) m' H') ∧ ∀ x H', J.yld i H x H' → B x H' Nx) := by
  let Pv : Nat → Hp → Prop := fun i H => Same H1 H ∧ Has H D ((as.take i).flatMap F)
  refine ⟨fun i m H => m = as.length - i ∧ i ≤ as.length ∧ Pv i H, ⟨as.length, by simp, Nat.zero_le _, same_new hD, Has.nil⟩, ?_⟩
  rintro i m H ⟨rfl, hi, p⟩
  have q := hG H p.1
  by_cases hlt : i < as.length
  · refine .inr ⟨w.goes i H hlt q, Pv (i + 1), fun H' p' => ⟨as.length - (i + 1), by omega, rfl, hlt, p'⟩, fun x H' y => ?_⟩
    obtain ⟨a, ha⟩ : ∃ a, as[i]? = some a := ⟨_, List.getElem?_eq_getElem hlt⟩
    refine turn _ i a x H H' ha p.1 p.2 (w.yields i H x H' hlt q y) fun H4 s h => ⟨s, ?_⟩
    rw [List.take_add_one, ha, List.flatMap_append]
    simpa using h
  · have e : i = as.length := by omega
    subst e
    obtain ⟨s, ys, e, h⟩ := p
    rw [List.take_length] at h
    exact .inl ⟨w.stops H q, fin H ys s e h.on⟩
/-- where each side is busy -/
def plcK (m : Mt3) : List (List Key) := [[.inl m.1, .inr m.2.1], [.inl m.1, .inr m.2.2]]
def places (ms : List Mt3) : List (List Key) := ms.flatMap plcK
def areB (D : Int) (ms : List Mt3) : Bool := ms.all (okM D) && decide ((places ms).Nodup)
def spAre (K : PySem.W.Frag) : Sp := fun vs H Q _ => ∃ (l : Addr) (D : Int) (xs : List V) (ms : List Mt3), vs = [.ref l, .int D] ∧ (SqL K H l xs ∨ SqT K H l xs) ∧ DmAll N0 H xs (ms.map mD) ∧ ms.length ≤ 30 ∧ (∀ m ∈ ms, m.2.1.length ≤ 1000 ∧ m.2.2.length ≤ 1000) ∧
  ∀ H', Same H H' → Q (.bl (areB D ms)) H'
theorem sqt_same {K : PySem.W.Frag} {H H' : Hp} {a : Addr} {xs : List V} (s2 : Same H H') (h : SqT K H a xs) : SqT K H' a xs := by
  rcases h with (h | ⟨ob, h⟩) | h
  · exact .inl (.inl (s2 _ _ h))
  · exact .inl (.inr ⟨ob, s2 _ _ h⟩)
  · exact .inr h
end Rw
namespace Rw
open PySem PySem.Spec PyProof.Rows L2
/-- a list or a tuple that is walked -/
theorem pi_either {X : Cx} {tg l : Expr} {w1 w2 : TI} (h1 : PI X tg l w1) (h2 : PI X tg l w2) : PI X tg l (fun σ H R => w1 σ H R ∨ w2 σ H R) := by
  constructor
  intro pins s σ H R I h
  exact h.elim (h1.run pins s σ H R I) (h2.run pins s σ H R I)
end Rw
namespace Rw
open PySem PySem.Spec PyProof.Rows L2
theorem ty_list {K : PySem.W.Frag} {H : Hp} {a : Addr} {xs : List V} (h : SqL K H a xs) : TyX K H (.ref a) (.type "list") := by
  rcases h with (h | ⟨o, h⟩) | ⟨o, its, n, hk, hc, _⟩
  · exact .base (.lst h)
  · exact .base (.frz h)
  · exact .kList hk hc
theorem ty_tup {K : PySem.W.Frag} {H : Hp} {a : Addr} {xs : List V} (h : SqT K H a xs) : TyX K H (.ref a) (.type "tuple") := by
  rcases h with (h | ⟨o, h⟩) | ⟨o, its, n, hk, hc, _⟩
  · exact .base (.tup h)
  · exact .fTuple h
  · exact .kTuple hk hc
theorem ty_seq {K : PySem.W.Frag} {H : Hp} {a : Addr} {xs : List V} (h : SqL K H a xs ∨ SqT K H a xs) : ∃ t, TyX K H (.ref a) t ∧ PySem.W.kitAny K t [.type "list", .type "tuple"] = some true :=
  h.elim (fun h => ⟨_, ty_list h, kit_list⟩) fun h => ⟨_, ty_tup h, kit_tuple⟩
def keyD : Key → PyData
  | .inl i => .int i
  | .inr x => .str x
def kD (c : List Key) : PyData := .tuple (c.map keyD)
theorem keys_in {M : Addr → Prop} {H : Hp} : ∀ {c : List Key} {vs : List V}, DmAll M H vs (c.map keyD) → vs = c.map kV
  | [], _, h => by cases h; rfl
  | .inl i :: c, _, h => by
    cases h with
    | cons h1 h2 => cases h1; rw [keys_in h2]; rfl
  | .inr i :: c, _, h => by
    cases h with
    | cons h1 h2 => cases h1; rw [keys_in h2]; rfl
theorem prs_of {M : Addr → Prop} {H : Hp} : ∀ {cs : List (List Key)} {ys : List V}, DmAll M H ys (cs.map kD) → ∃ ks : List Pr, ys = (ks.map fun p => V.ref p.1) ∧ ks.map Prod.snd = cs ∧ ∀ p ∈ ks, H p.1 = some (.tup (p.2.map kV))
  | [], _, h => by cases h; exact ⟨[], rfl, rfl, fun _ z => nomatch z⟩
  | c :: cs, _, h => by
    cases h with
    | cons h1 h2 =>
      unfold kD at h1
      cases h1 with
      | @tup a xs _ _ e hs =>
        obtain ⟨ks, rfl, rfl, h3⟩ := prs_of h2
        refine ⟨(a, c) :: ks, rfl, rfl, fun p hp => ?_⟩
        rcases List.mem_cons.mp hp with z | z
        · rw [z]
          show H a = some (.tup (c.map kV))
          rw [← keys_in hs]
          exact e
        · exact h3 p z
theorem tupo_kD (c : List Key) : tupo (kD c) = true := tupos_map (fun k => by cases k <;> rfl) c
end Rw
namespace Rw
open PySem PySem.Spec PyProof.Rows L2
theorem it_seq {K : PySem.W.Frag} {te : TE} {σ : L2.St} {H : Hp} {R : It → Hp → Prop} {l : Addr} {xs : List V} (hs : SqL K H l xs ∨ SqT K H l xs) (ht : ∀ Q : VK, Q (.ref l) H → te σ H Q)
    (k : ∀ J G, Walk J xs.length G (YAt xs) → (∀ H', Same H H' → G H') → R J H) : iList K te σ H R ∨ iTup K te σ H R :=
  hs.elim (fun h => .inl (ht _ ⟨l, rfl, ⟨_, h⟩, k _ _ walk_list fun _ s => s.seq h⟩)) fun h => .inr (ht _ ⟨l, rfl, ⟨_, h⟩, k _ _ walk_tup fun _ s => sqt_same s h⟩)
theorem seq_same {K : PySem.W.Frag} {H H' : Hp} {a : Addr} {xs : List V} (s : Same H H') (h : SqL K H a xs ∨ SqT K H a xs) : SqL K H' a xs ∨ SqT K H' a xs := h.imp s.seq (sqt_same s)
end Rw
namespace Rw
open PySem PySem.Spec PyProof.Rows L2
/-- only lists may change -/
def Ls (M : Addr → Prop) (H : Hp) : Prop := ∀ a, M a → ∃ xs, H a = some (.lst xs)
theorem SqT.kp {K : PySem.W.Frag} {M : Addr → Prop} {H H' : Hp} {t : Addr} {xs : List V} (h : SqT K H t xs) (hM : Ls M H) (k : Kp M H H') : SqT K H' t xs := by
  rcases h with (h | ⟨o, h⟩) | h
  · exact .inl (.inl (k _ _ h fun z => by obtain ⟨_, e⟩ := hM _ z; rw [h] at e; cases e))
  · exact .inl (.inr ⟨o, k _ _ h fun z => by obtain ⟨_, e⟩ := hM _ z; rw [h] at e; cases e⟩)
  · exact .inr h
/-- a week at w -/
def WkO (K : PySem.W.Frag) (C : Addr) (H : Hp) (w : Addr) (D : Int) (ms : List Mt3) : Prop := ∃ dx t xs, H w = some (.ins C dx [("days", .int D), ("matches", .ref t)]) ∧ SqT K H t xs ∧ DmAll N0 H xs (ms.map mD)
theorem tupos_mD (ms : List Mt3) : tupos (ms.map mD) = true := tupos_map (fun _ => rfl) ms
theorem DmAll.kpl {M : Addr → Prop} {H H' : Hp} {xs : List V} {ds : List PyData} (h : DmAll N0 H xs ds) (t : tupos ds = true) (hM : Ls M H) (k : Kp M H H') : DmAll N0 H' xs ds :=
  (DmAll.mv (fun a o e m => ⟨k a o e m, id⟩) ds xs (DmAll.off (M := M) (fun a z ys e => by obtain ⟨_, q⟩ := hM a z; rw [e] at q; cases q) ds xs t h))
theorem Dm.kpl {M : Addr → Prop} {H H' : Hp} {v : V} {d : PyData} (h : Dm N0 H v d) (t : tupo d = true) (hM : Ls M H) (k : Kp M H H') : Dm N0 H' v d :=
  (Dm.mv (fun a o e m => ⟨k a o e m, id⟩) d v (Dm.off (M := M) (fun a z ys e => by obtain ⟨_, q⟩ := hM a z; rw [e] at q; cases q) d v t h))
section
variable {K : PySem.W.Frag} {C w : Addr} {H H' : Hp} {D : Int} {ms : List Mt3} {M : Addr → Prop}
theorem WkO.kp (h : WkO K C H w D ms) (hM : Ls M H) (k : Kp M H H') : WkO K C H' w D ms := by
  obtain ⟨dx, t, xs, h1, h2, h3⟩ := h
  exact ⟨dx, t, xs, k _ _ h1 (fun z => by obtain ⟨_, e⟩ := hM _ z; rw [h1] at e; cases e), SqT.kp h2 hM k, h3.kpl (tupos_mD ms) hM k⟩
theorem WkO.same (h : WkO K C H w D ms) (s : Same H H') : WkO K C H' w D ms := by
  obtain ⟨dx, t, xs, h1, h2, h3⟩ := h
  exact ⟨dx, t, xs, s _ _ h1, sqt_same s h2, h3.same s⟩
end
/-- the making of a week that is right -/
def spWeekI (K : PySem.W.Frag) (C : Addr) : Sp := fun vs H Q _ => ∃ (a dx l : Addr) (D : Int) (xs : List V) (ms : List Mt3), vs = [.ref a, .int D, .ref l] ∧ H a = some (.ins C dx []) ∧ (SqL K H l xs ∨ SqT K H l xs) ∧ DmAll N0 H xs (ms.map mD) ∧ ms.length ≤ 30 ∧
  (∀ m ∈ ms, m.2.1.length ≤ 1000 ∧ m.2.2.length ≤ 1000) ∧ 1 ≤ D ∧ areB D ms = true ∧ ∀ H', Kp (· = a) H H' → WkO K C H' a D ms → Q .non H'
end Rw
namespace Rw
open PySem PySem.Spec PyProof.Rows L2
section
variable {K : PySem.W.Frag} {H : Hp} {a l C dx : Addr} {fs : List (Str × V)} {o : HO} {xs : List V}
theorem sql_ins (h : SqL K H l xs) (e : H a = some (.ins C dx fs)) : SqL K (upd H a o) l xs := by
  have ne : ∀ {u}, H l = some u → (∀ C dx fs, u ≠ .ins C dx fs) → l ≠ a := fun e2 n z => by rw [z, e] at e2; cases e2; exact n _ _ _ rfl
  rcases h with (h | ⟨o, h⟩) | h
  · exact .inl (.inl ((upd_ne (ne h fun _ _ _ z => nomatch z)).trans h))
  · exact .inl (.inr ⟨o, (upd_ne (ne h fun _ _ _ z => nomatch z)).trans h⟩)
  · exact .inr h
theorem sqt_ins (h : SqT K H l xs) (e : H a = some (.ins C dx fs)) : SqT K (upd H a o) l xs := by
  have ne : ∀ {u}, H l = some u → (∀ C dx fs, u ≠ .ins C dx fs) → l ≠ a := fun e2 n z => by rw [z, e] at e2; cases e2; exact n _ _ _ rfl
  rcases h with (h | ⟨o, h⟩) | h
  · exact .inl (.inl ((upd_ne (ne h fun _ _ _ z => nomatch z)).trans h))
  · exact .inl (.inr ⟨o, (upd_ne (ne h fun _ _ _ z => nomatch z)).trans h⟩)
  · exact .inr h
theorem seq_ins (h : SqL K H l xs ∨ SqT K H l xs) (e : H a = some (.ins C dx fs)) : SqL K (upd H a o) l xs ∨ SqT K (upd H a o) l xs := h.imp (fun h => sql_ins h e) fun h => sqt_ins h e
theorem dm_ins {ds : List PyData} (h : DmAll N0 H xs ds) (t : tupos ds = true) (e : H a = some (.ins C dx fs)) : DmAll N0 (upd H a o) xs ds :=
  DmAll.mv (M := (· = a)) (fun b u q m => ⟨(upd_ne m).trans q, id⟩) ds xs (DmAll.off (fun b z ys q => by rw [z, e] at q; cases q) ds xs t h)
end
theorem kp_upd {H H1 : Hp} {a : Addr} {o : HO} (k : Kp (· = a) H H1) : Kp (· = a) H (upd H1 a o) := fun b u e n => (upd_ne n).trans (k b u e n)
end Rw
namespace Rw
open PySem PySem.Spec PyProof.Rows L2
/-- the matches on day n -/
def onL (D : Int) (ms : List Mt3) (n : Int) : List Int := (ms.zipIdx.filter fun p => decide (p.1.1 = n.fmod D)).map fun p => (p.2 : Int)
def spOn (K : PySem.W.Frag) (C : Addr) : Sp := fun vs H Q _ => ∃ (a : Addr) (D : Int) (ms : List Mt3) (n : Int), vs = [.ref a, .int n] ∧ WkO K C H a D ms ∧ 1 ≤ D ∧ D < 1073741824 ∧ ms.length ≤ 30 ∧
  ∀ t H', Same H H' → H' t = some (.tup ((onL D ms n).map V.int)) → Q (.ref t) H'
end Rw
namespace Rw
open PySem PySem.Spec PyProof.Rows L2
theorem ix_tupK {X : Cx} {K : PySem.W.Frag} (h : X.K = K) : IxR X (rIxT K) := by subst h; exact ix_tup
theorem in_seqK {X : Cx} {K : PySem.W.Frag} (h : X.K = K) : OpR X (compareOp .In) (rIn K false) := by subst h; exact op_in_seq
end Rw
namespace Rw
open PySem PySem.Spec PyProof.Rows L2
def ordS (f : Bool) : Str := if f then "first" else "last"
/-- a rule at r -/
def RuO (K : PySem.W.Frag) (C : Addr) (H : Hp) (r : Addr) (g wi : Int) (ls : List Int) (f : Bool) : Prop := ∃ dx t, H r = some (.ins C dx [("gap", .int g), ("window", .int wi), ("let", .ref t), ("order", .str (ordS f))]) ∧ SqT K H t (ls.map V.int)
section
variable {K : PySem.W.Frag} {C r : Addr} {H H' : Hp} {g wi : Int} {ls : List Int} {f : Bool} {M : Addr → Prop}
theorem RuO.kp (h : RuO K C H r g wi ls f) (hM : Ls M H) (k : Kp M H H') : RuO K C H' r g wi ls f := by
  obtain ⟨dx, t, h1, h2⟩ := h
  exact ⟨dx, t, k _ _ h1 (fun z => by obtain ⟨_, e⟩ := hM _ z; rw [h1] at e; cases e), SqT.kp h2 hM k⟩
theorem RuO.same (h : RuO K C H r g wi ls f) (s : Same H H') : RuO K C H' r g wi ls f := by
  obtain ⟨dx, t, h1, h2⟩ := h
  exact ⟨dx, t, s _ _ h1, sqt_same s h2⟩
end
def spRuleI (K : PySem.W.Frag) (C : Addr) : Sp := fun vs H Q _ => ∃ (a dx l : Addr) (g wi : Int) (ns : List Int) (f : Bool), vs = [.ref a, .int g, .int wi, .ref l, .str (ordS f)] ∧ H a = some (.ins C dx []) ∧ (SqL K H l (ns.map V.int) ∨ SqT K H l (ns.map V.int)) ∧ 1 ≤ g ∧ g ≤ 2 ∧ 1 ≤ wi ∧ ns.length ≤ 60 ∧
  (∀ n ∈ ns, 0 ≤ n) ∧ ∀ H' ls, Kp (· = a) H H' → ls.Pairwise (· < ·) → (∀ k, k ∈ ls ↔ k ∈ ns) → RuO K C H' a g wi ls f → Q .non H'
end Rw
namespace Rw
open PySem PySem.Spec PyProof.Rows L2
theorem it_enum {K : PySem.W.Frag} {ta : TA} {σ : L2.St} {H : Hp} {R : It → Hp → Prop} {l : Addr} {xs : List V} (hs : SqL K H l xs ∨ SqT K H l xs) (ht : ∀ Q : List V → Hp → Prop, Q [.ref l] H → ta σ H Q)
    (k : ∀ J G, Walk J xs.length G (YPair (fun i => some (.int (i : Nat))) (fun i => xs[i]?)) → (∀ H', Same H H' → G H') → R J H) : iEnum K ta σ H R ∨ iEnumT K ta σ H R :=
  hs.elim (fun h => .inl (ht _ ⟨l, xs, rfl, h, k _ _ walk_enum fun _ s => s.seq h⟩)) fun h => .inr (ht _ ⟨l, xs, rfl, h, k _ _ walk_enumT fun _ s => sqt_same s h⟩)
def spRain (K : PySem.W.Frag) : Sp := fun vs H Q _ => ∃ (l : Addr) (bs : List Bool), vs = [.ref l] ∧ (SqL K H l (bs.map V.bl) ∨ SqT K H l (bs.map V.bl)) ∧ bs.length ≤ 1000 ∧ ∀ t H', Same H H' → SqT K H' t (bs.map V.bl) → Q (.ref t) H'
def spPlayedI (C : Addr) : Sp := fun vs H Q _ => ∃ (a dx : Addr) (x y z : V), vs = [.ref a, x, y, z] ∧ H a = some (.ins C dx []) ∧ ∀ H', Kp (· = a) H H' → H' a = some (.ins C dx [("played", x), ("lost", y), ("waiting", z)]) → Q .non H'
end Rw
namespace Rw
open PySem PySem.Spec PyProof.Rows L2
/-- a range held by a name, walked -/
def iRngV (te : TE) : TI := fun σ H R => te σ H fun x H1 => ∃ (a : Addr) (lo hi : Int), x = .ref a ∧ H1 a = some (.rng lo hi) ∧ (-(2 ^ 62) ≤ lo ∧ lo < 2 ^ 62 ∧ -(2 ^ 62) ≤ hi ∧ hi < 2 ^ 62) ∧ R (Itr lo (hi - lo).toNat) H1
theorem pi_rngV {X : Cx} {tg e : Expr} {te : TE} (he : PE X e te) : PI X tg e (iRngV te) := by
  refine ⟨fun pins s σ H R I h => ?_⟩
  refine thn (he.run pins s σ H _ I h) fun u s1 ⟨x, H1, I1, r1, q1⟩ => ?_
  obtain ⟨a, lo, hi, rfl, ha, ⟨h1, h2, h3, h4⟩, q⟩ := q1
  cases r1
  obtain ⟨t, u, v, ho⟩ := I1.hok a _ ha
  refine wpAny_pyIter_range (show IsRange s1.heap a lo hi 1 t u v from ho) (small_one h1 h2 h3 h4) ?_
  refine ⟨s1.heap.objs.size, [s1.heap.objs.size], _, _, H1, rfl, I1.kept (t' := s1.toks) fun b o e => Heap.get?_push_of_some _ e, turn_range _ lo (hi - lo).toNat, ?_, fun b hb => ?_, q⟩
  · have e1 : lo + ((0 : Nat) : Int) * 1 = lo := by simp
    have e2 : (((hi - lo).toNat : Nat) : Int) - ((0 : Nat) : Int) = Builtin.Range.rangeSize lo hi 1 := by rw [rangeSize_one]; split <;> omega
    show IsRangeIter _ _ (lo + ((0 : Nat) : Int) * 1) ((((hi - lo).toNat : Nat) : Int) - ((0 : Nat) : Int)) 1
    rw [e1, e2]
    exact Heap.get?_push_size _ rfl
  · cases (show b = s1.heap.objs.size by simpa using hb)
    exact I1.fpOk (Nat.le_refl _) (I1.hok.fresh (Nat.le_refl _))
/-- those waiting: day, own day, match -/
abbrev Wt := Int × Int × Int
def tD (t : Wt) : PyData := .tuple [.int t.1, .int t.2.1, .int t.2.2]
def pD (p : Int × Int) : PyData := .tuple [.int p.1, .int p.2]
theorem tD_inv {M : Addr → Prop} {H : Hp} {v : V} {t : Wt} (h : Dm M H v (tD t)) : ∃ a, v = .ref a ∧ H a = some (.tup [.int t.1, .int t.2.1, .int t.2.2]) := by
  unfold tD at h
  cases h with
  | tup _ e hs =>
    have z := ints_of (ns := [t.1, t.2.1, t.2.2]) hs
    rw [z] at e
    exact ⟨_, rfl, e⟩
theorem pD_inv {M : Addr → Prop} {H : Hp} {v : V} {p : Int × Int} (h : Dm M H v (pD p)) : ∃ a, v = .ref a ∧ H a = some (.tup [.int p.1, .int p.2]) := by
  unfold pD at h
  cases h with
  | tup _ e hs =>
    have z := ints_of (ns := [p.1, p.2]) hs
    rw [z] at e
    exact ⟨_, rfl, e⟩
theorem tD_of {H : Hp} {a : Addr} {t : Wt} (h : H a = some (.tup [.int t.1, .int t.2.1, .int t.2.2])) : Dm N0 H (.ref a) (tD t) := .tup id h (.cons (.int _) (.cons (.int _) (.cons (.int _) .nil)))
theorem pD_of {H : Hp} {a : Addr} {p : Int × Int} (h : H a = some (.tup [.int p.1, .int p.2])) : Dm N0 H (.ref a) (pD p) := .tup id h (.cons (.int _) (.cons (.int _) .nil))
/-- lo, lo + 1, .., hi - 1 -/
def irange (lo hi : Int) : List Int := (List.range (hi - lo).toNat).map fun (i : Nat) => lo + i
/-- the matches near -/
def nearL (D : Int) (ms : List Mt3) (g day to : Int) (wt : List Wt) : List Int :=
  (irange (max (day + 1) (to - g + 1)) (to + g)).flatMap (onL D ms) ++ (wt.filter fun t => decide (max (day + 1) (to - g + 1) ≤ t.1 ∧ t.1 < to + g)).map fun t => t.2.2
def sidesOf (ms : List Mt3) (i : Int) : List Str := match ms[i.toNat]? with
  | some m => [m.2.1, m.2.2]
  | none => []
def barL (ms : List Mt3) (m : Int) (os : List Int) : Bool := os.any fun o => (sidesOf ms o).any fun x => decide (x ∈ sidesOf ms m)
/-- numbers that a play may come by -/
def Sm (n : Int) : Prop := -1000000 ≤ n ∧ n ≤ 1000000
def spNear (K : PySem.W.Frag) (CW CR : Addr) : Sp := fun vs H Q _ => ∃ (a r l : Addr) (D : Int) (ms : List Mt3) (g wi : Int) (ls : List Int) (f : Bool) (day to : Int) (xs : List V) (wt : List Wt), vs = [.ref a, .ref r, .int day, .int to, .ref l] ∧ WkO K CW H a D ms ∧ 1 ≤ D ∧ D < 1073741824 ∧ ms.length ≤ 30 ∧
  RuO K CR H r g wi ls f ∧ 1 ≤ g ∧ g ≤ 2 ∧ Sm day ∧ Sm to ∧ SqL K H l xs ∧ DmAll N0 H xs (wt.map tD) ∧ wt.length ≤ 100000 ∧ ∀ p H', H p = none → Same H H' → H' p = some (.lst ((nearL D ms g day to wt).map V.int)) → Q (.ref p) H'
def spBar (K : PySem.W.Frag) (CW : Addr) : Sp := fun vs H Q _ => ∃ (a l : Addr) (D : Int) (ms : List Mt3) (m : Int) (os : List Int), vs = [.ref a, .int m, .ref l] ∧ WkO K CW H a D ms ∧ 0 ≤ m ∧ m < ms.length ∧ SqL K H l (os.map V.int) ∧ (∀ o ∈ os, 0 ≤ o ∧ o < ms.length) ∧ os.length ≤ 200000 ∧
  ∀ H', Same H H' → Q (.bl (barL ms m os)) H'
end Rw
namespace Rw
open PySem PySem.Spec PyProof.Rows L2
theorem sl_tupK {X : Cx} {K : PySem.W.Frag} (h : X.K = K) : SlR X (rSlT K) := by subst h; exact sl_tup
end Rw
namespace Rw
open PySem PySem.Spec PyProof.Rows L2
theorem in_strs (x : Str) : ∀ ss : List Str, inV (.str x) (ss.map V.str) = decide (x ∈ ss)
  | [] => rfl
  | s :: ss => by
    have ih := in_strs x ss
    unfold inV at ih ⊢
    rw [List.map_cons, List.any_cons, ih]
    show ((s == x) || decide (x ∈ ss)) = _
    by_cases e : x = s
    · subst e
      simp
    · have e2 : (s == x) = false := by simpa using fun z => e z.symm
      rw [e2]
      simp [e]
/-- match i of a week -/
theorem match_at {M : Addr → Prop} {H : Hp} {xs : List V} {ms : List Mt3} {i : Int} (dm : DmAll M H xs (ms.map mD)) (h0 : 0 ≤ i) (h1 : i < ms.length) : ∃ (n : Nat) (m : Mt3) (b : Addr), i = n ∧ ms[n]? = some m ∧ xs[n]? = some (.ref b) ∧ H b = some (.tup [.int m.1, .str m.2.1, .str m.2.2]) ∧ sidesOf ms i = [m.2.1, m.2.2] := by
  obtain ⟨n, rfl⟩ := Int.eq_ofNat_of_zero_le h0
  have hn : n < ms.length := by omega
  have e : ms[n]? = some ms[n] := List.getElem?_eq_getElem hn
  obtain ⟨v, hv, dv⟩ := dm.at_ (i := n) (d := mD ms[n]) (by rw [List.getElem?_map, e]; rfl)
  obtain ⟨b, rfl, hb⟩ := mD_inv dv
  refine ⟨n, ms[n], b, rfl, e, hv, hb, ?_⟩
  unfold sidesOf
  rw [show (n : Int).toNat = n from rfl, e]
end Rw
namespace Rw
open PySem PySem.Spec PyProof.Rows L2
theorem irange_len (lo hi : Int) : (irange lo hi).length = (hi - lo).toNat := by unfold irange; rw [List.length_map, List.length_range]
theorem irange_at {lo hi : Int} {i : Nat} {n : Int} (h : (irange lo hi)[i]? = some n) : n = lo + i ∧ i < (hi - lo).toNat := by
  unfold irange at h
  rw [List.getElem?_map] at h
  by_cases c : i < (hi - lo).toNat
  · rw [List.getElem?_range c] at h
    exact ⟨(Option.some.inj h).symm, c⟩
  · rw [List.getElem?_eq_none (by rw [List.length_range]; omega)] at h
    cases h
theorem onL_len (D : Int) (ms : List Mt3) (n : Int) : (onL D ms n).length ≤ ms.length := by
  unfold onL
  rw [List.length_map]
  exact Nat.le_trans (List.length_filter_le _ _) (by rw [List.length_zipIdx]; exact Nat.le_refl _)
theorem flat_le {α β : Type} {f : α → List β} {k : Nat} (h : ∀ a, (f a).length ≤ k) : ∀ l : List α, (l.flatMap f).length ≤ k * l.length
  | [] => Nat.zero_le _
  | a :: l => by
    rw [List.flatMap_cons, List.length_append, List.length_cons, Nat.mul_add]
    have := h a
    have := flat_le h l
    omega
end Rw
namespace Rw
open PySem PySem.Spec PyProof.Rows L2
theorem walk_ir (lo hi : Int) : Walk (Itr lo (hi - lo).toNat) (irange lo hi).length (fun _ => True) (YFn fun i => .int (lo + i)) := by rw [irange_len]; exact walk_range
end Rw
namespace Rw
open PySem PySem.Spec PyProof.Rows L2
/-! ### sorting -/
def insB {α : Type} (le : α → α → Bool) (x : α) : List α → List α
  | [] => [x]
  | y :: ys => if le x y then x :: y :: ys else y :: insB le x ys
def isort {α : Type} (le : α → α → Bool) : List α → List α
  | [] => []
  | x :: xs => insB le x (isort le xs)
section
variable {α : Type} {le : α → α → Bool}
theorem insB_perm (x : α) : ∀ l : List α, (insB le x l).Perm (x :: l)
  | [] => .refl _
  | y :: l => by
    unfold insB
    split
    · exact .refl _
    · exact ((insB_perm x l).cons y).trans (.swap x y l)
theorem isort_perm : ∀ l : List α, (isort le l).Perm l
  | [] => .refl _
  | x :: l => (insB_perm x (isort le l)).trans ((isort_perm l).cons x)
theorem insB_sorted (tr : ∀ a b c, le a b = true → le b c = true → le a c = true) (to : ∀ a b, le a b = true ∨ le b a = true) (x : α) : ∀ l : List α, l.Pairwise (fun a b => le a b = true) → (insB le x l).Pairwise (fun a b => le a b = true)
  | [], _ => .cons (fun _ h => nomatch h) .nil
  | y :: l, h => by
    cases h with
    | cons h1 h2 =>
      unfold insB
      split
      · rename_i c
        refine .cons (fun z hz => ?_) (.cons h1 h2)
        rcases List.mem_cons.mp hz with e | e
        · exact e ▸ c
        · exact tr _ _ _ c (h1 z e)
      · rename_i c
        have c2 : le y x = true := (to x y).resolve_left c
        refine .cons (fun z hz => ?_) (insB_sorted tr to x l h2)
        rcases List.mem_cons.mp ((insB_perm x l).mem_iff.mp hz) with e | e
        · exact e ▸ c2
        · exact h1 z e
theorem isort_sorted (tr : ∀ a b c, le a b = true → le b c = true → le a c = true) (to : ∀ a b, le a b = true ∨ le b a = true) : ∀ l : List α, (isort le l).Pairwise (fun a b => le a b = true)
  | [] => .nil
  | x :: l => insB_sorted tr to x _ (isort_sorted tr to l)
end
def leT (a b : Wt) : Bool := decide (a.1 < b.1 ∨ (a.1 = b.1 ∧ (a.2.1 < b.2.1 ∨ (a.2.1 = b.2.1 ∧ a.2.2 ≤ b.2.2))))
def leP (a b : Int × Int) : Bool := decide (a.1 < b.1 ∨ (a.1 = b.1 ∧ a.2 ≤ b.2))
def sortT (l : List Wt) : List Wt := isort leT l
def sortP (l : List (Int × Int)) : List (Int × Int) := isort leP l
end Rw
namespace Rw
open PySem PySem.Spec PySem.W PyProof.Rows L2
theorem lt3 (a b c a' b' c' : Int) : dataLt (.tuple [.int a, .int b, .int c]) (.tuple [.int a', .int b', .int c']) = decide (a < a' ∨ (a = a' ∧ (b < b' ∨ (b = b' ∧ c < c')))) := by
  rw [dataLt_tuple, dataLt_cons (by simp [alike]), dataLt_cons (by simp [alike]), dataLt_cons (by simp [alike]), dataLt_int, dataLt_int, dataLt_int]
  have e : PyProof.Rows.lexLt itemOrd (keyToksAll []) (keyToksAll []) = false := lex_irrefl _
  rw [e]
  simp only [PyData.eqv, beq_iff_eq]
  by_cases h1 : a = a' <;> by_cases h2 : b = b' <;> by_cases h3 : c = c' <;> simp [h1, h2, h3]
theorem le_tD : dataLe false tD = leT := by
  funext p q
  show (!dataLt (.tuple [.int q.1, .int q.2.1, .int q.2.2]) (.tuple [.int p.1, .int p.2.1, .int p.2.2])) = leT p q
  rw [lt3]
  unfold leT
  by_cases h : q.1 < p.1 ∨ (q.1 = p.1 ∧ (q.2.1 < p.2.1 ∨ (q.2.1 = p.2.1 ∧ q.2.2 < p.2.2)))
  · have h' : ¬ (p.1 < q.1 ∨ (p.1 = q.1 ∧ (p.2.1 < q.2.1 ∨ (p.2.1 = q.2.1 ∧ p.2.2 ≤ q.2.2)))) := by omega
    rw [decide_eq_true h, decide_eq_false h']
    rfl
  · have h' : p.1 < q.1 ∨ (p.1 = q.1 ∧ (p.2.1 < q.2.1 ∨ (p.2.1 = q.2.1 ∧ p.2.2 ≤ q.2.2))) := by omega
    rw [decide_eq_false h, decide_eq_true h']
    rfl
theorem le_pD : dataLe false pD = leP := dataLe_ii Prod.fst Prod.snd
theorem tr_T (x y z : Wt) (a : leT x y = true) (b : leT y z = true) : leT x z = true := by
  unfold leT at *
  simp only [decide_eq_true_eq] at *
  omega
theorem to_T (x y : Wt) : leT x y = true ∨ leT y x = true := by
  unfold leT
  simp only [decide_eq_true_eq]
  omega
theorem an_T (x y : Wt) (a : leT x y = true) (b : leT y x = true) : x = y := by
  unfold leT at *
  simp only [decide_eq_true_eq] at *
  obtain ⟨x1, x2, x3⟩ := x
  obtain ⟨y1, y2, y3⟩ := y
  simp only at a b
  have : x1 = y1 ∧ x2 = y2 ∧ x3 = y3 := by omega
  obtain ⟨rfl, rfl, rfl⟩ := this
  rfl
theorem tr_P (x y z : Int × Int) (a : leP x y = true) (b : leP y z = true) : leP x z = true := by
  unfold leP at *
  simp only [decide_eq_true_eq] at *
  omega
theorem to_P (x y : Int × Int) : leP x y = true ∨ leP y x = true := by
  unfold leP
  simp only [decide_eq_true_eq]
  omega
theorem an_P (x y : Int × Int) (a : leP x y = true) (b : leP y x = true) : x = y := by
  unfold leP at *
  simp only [decide_eq_true_eq] at *
  obtain ⟨x1, x2⟩ := x
  obtain ⟨y1, y2⟩ := y
  simp only at a b
  have : x1 = y1 ∧ x2 = y2 := by omega
  obtain ⟨rfl, rfl⟩ := this
  rfl
theorem sortT_eq (l : List Wt) : sortT l = l.mergeSort leT := Srt.the_of_perm leT tr_T (fun x y => by have := to_T x y; simpa using this) an_T (isort_perm l) (isort_sorted tr_T to_T l)
theorem sortP_eq (l : List (Int × Int)) : sortP l = l.mergeSort leP := Srt.the_of_perm leP tr_P (fun x y => by have := to_P x y; simpa using this) an_P (isort_perm l) (isort_sorted tr_P to_P l)
theorem sorts {β : Type} {enc : β → PyData} {le : β → β → Bool} (h : dataLe false enc = le) {zs : List (V × PyData)} {ts : List β} (e : zs.map Prod.snd = ts.map enc) : (zs.mergeSort (dataLe false (·.2))).map Prod.snd = (ts.mergeSort le).map enc := by
  have e1 : (zs.mergeSort (dataLe false (·.2))).map Prod.snd = (zs.map Prod.snd).mergeSort (dataLe false id) := sort_maps Prod.snd (r := dataLe false fun z : V × PyData => z.2) (s := dataLe false id) fun _ _ _ _ => rfl
  have e2 : (ts.mergeSort (dataLe false enc)).map enc = (ts.map enc).mergeSort (dataLe false id) := sort_maps enc (r := dataLe false enc) (s := dataLe false id) fun _ _ _ _ => rfl
  rw [e1, e, ← e2, h]
theorem zip_dm {M : Addr → Prop} {H : Hp} : ∀ {xs : List V} {ds : List PyData}, DmAll M H xs ds → (xs.zip ds).map Prod.fst = xs ∧ (xs.zip ds).map Prod.snd = ds ∧ ∀ z ∈ xs.zip ds, Dm M H z.1 z.2
  | [], [], _ => ⟨rfl, rfl, fun _ h => nomatch h⟩
  | [], _ :: _, h => nomatch h
  | _ :: _, [], h => nomatch h
  | x :: xs, d :: ds, h => by
    cases h with
    | cons h1 h2 =>
      obtain ⟨a, b, c⟩ := zip_dm h2
      refine ⟨congrArg (x :: ·) a, congrArg (d :: ·) b, fun z hz => ?_⟩
      rcases List.mem_cons.mp (show z ∈ (x, d) :: xs.zip ds from hz) with e | e
      · exact e ▸ h1
      · exact c z e
theorem dm_zs {M : Addr → Prop} {H : Hp} : ∀ {zs : List (V × PyData)}, (∀ z ∈ zs, Dm M H z.1 z.2) → DmAll M H (zs.map Prod.fst) (zs.map Prod.snd)
  | [], _ => .nil
  | z :: zs, h => .cons (h z List.mem_cons_self) (dm_zs fun y hy => h y (List.mem_cons_of_mem _ hy))
/-- sorted(xs), as data of one kind -/
def rSortB (K : PySem.W.Frag) {β : Type} (enc : β → PyData) (srt : List β → List β) : List V → Hp → VK → Prop := fun vs H Q => ∃ (a : Addr) (xs : List V) (ts : List β), vs = [.ref a] ∧ SqL K H a xs ∧ DmAll N0 H xs (ts.map enc) ∧
  ∀ p ys, H p = none → DmAll N0 (upd H p (.lst ys)) ys ((srt ts).map enc) → Q (.ref p) (upd H p (.lst ys))
theorem cr_sortB {X : Cx} {β : Type} {enc : β → PyData} {le : β → β → Bool} {srt : List β → List β} (hu : X.A.units + 64 < cLine) (h : dataLe false enc = le) (hs : ∀ l, srt l = l.mergeSort le) (hd : ∀ b, (enc b).depth ≤ 60) (al : ∀ b b', alike (enc b) (enc b') = true)
    (so : ∀ b, ∃ x r, enc b = .tuple (x :: r)) : CallR X (.builtin "sorted") (rSortB X.K enc srt) := by
  intro pins s σ H vs us Q I r hh
  obtain ⟨a, xs, ts, rfl, h1, h2, q⟩ := hh
  obtain ⟨z1, z2, z3⟩ := zip_dm h2
  have sok : Sortable ((xs.zip (ts.map enc)).map Prod.snd) := by
    rw [z2]
    refine .inl fun d hd => ?_
    obtain ⟨b, _, rfl⟩ := List.mem_map.mp hd
    exact so b
  refine cr_sortD hu pins s σ H [.ref a] us Q I r ⟨a, xs.zip (ts.map enc), rfl, by rw [z1]; exact h1, fun z hz => ⟨(z3 z hz).dp, ?_⟩, by rw [z2]; exact AllAlike.of al, sok, fun p hp => q p _ hp ?_⟩
  · have : z.2 ∈ (xs.zip (ts.map enc)).map Prod.snd := List.mem_map_of_mem hz
    rw [z2] at this
    obtain ⟨b, _, e⟩ := List.mem_map.mp this
    exact e ▸ hd b
  · have e := sorts h z2
    rw [← hs] at e
    rw [← e]
    refine dm_zs fun z hz => ?_
    exact (z3 z ((List.mergeSort_perm _ _).mem_iff.mp hz)).same (same_new hp)
theorem cr_sortT3 {X : Cx} (hu : X.A.units + 64 < cLine) : CallR X (.builtin "sorted") (rSortB X.K tD sortT) := cr_sortB hu le_tD sortT_eq (fun _ => Nat.le_of_ble_eq_true rfl) (fun _ _ => rfl) fun _ => ⟨_, _, rfl⟩
theorem cr_sortP2 {X : Cx} (hu : X.A.units + 64 < cLine) : CallR X (.builtin "sorted") (rSortB X.K pD sortP) := cr_sortB hu le_pD sortP_eq (fun _ => Nat.le_of_ble_eq_true rfl) (fun _ _ => rfl) fun _ => ⟨_, _, rfl⟩
end Rw
/-! own layer: a season day by day, as plain lists; the promises of plays -/
namespace Rw
open PySem PySem.Spec PyProof.Rows L2
/-- a week and a rule -/
structure Wr where
  D : Int
  ms : List Mt3
  g : Int
  wi : Int
  ls : List Int
  f : Bool
structure Wr.Good (W : Wr) : Prop where
  d1 : 1 ≤ W.D
  d2 : W.D < 1073741824
  ml : W.ms.length ≤ 30
  g1 : 1 ≤ W.g
  g2 : W.g ≤ 2
  w1 : 1 ≤ W.wi
  w2 : W.wi ≤ 1000
def newDay (W : Wr) (day own m : Int) (wt : List Wt) : Option Int :=
  (irange (day + 1) (own + W.wi + 1)).find? fun to => decide (to.fmod W.D ∈ W.ls) && !barL W.ms m (nearL W.D W.ms W.g day to wt)
def stepOff (W : Wr) (day : Int) (st : List Wt × List Wt) (p : Int × Int) : List Wt × List Wt :=
  match newDay W day p.1 p.2 st.2 with
  | none => (st.1 ++ [(day, p.1, p.2)], st.2)
  | some to => (st.1, st.2 ++ [(to, p.1, p.2)])
def putOff (W : Wr) (day : Int) (due : List (Int × Int)) (wt : List Wt) : List Wt × List Wt :=
  let r := (if W.f then due else due.reverse).foldl (stepOff W day) ([], wt)
  (sortT r.1, sortT r.2)
def dueL (W : Wr) (day : Int) (wt : List Wt) : List (Int × Int) := sortP ((onL W.D W.ms day).map (fun m => (day, m)) ++ (wt.filter fun t => decide (t.1 = day)).map fun t => (t.2.1, t.2.2))
def laterL (day : Int) (wt : List Wt) : List Wt := sortT (wt.filter fun t => decide (day < t.1))
def playDay (W : Wr) (day : Int) (wt : List Wt) (rainy : Bool) : List (Int × Int) × List Wt × List Wt :=
  if rainy then ([], putOff W day (dueL W day wt) (laterL day wt)) else (dueL W day wt, [], laterL day wt)
def Sd (n : Int) : Prop := -100000 ≤ n ∧ n ≤ 100000
def Gw (W : Wr) (wt : List Wt) : Prop := ∀ t ∈ wt, 0 ≤ t.2.2 ∧ t.2.2 < W.ms.length
def optV : Option Int → V
  | none => .non
  | some i => .int i
/-- the two objects -/
def WrO (K : PySem.W.Frag) (CW CR : Addr) (H : Hp) (a r : Addr) (W : Wr) : Prop := WkO K CW H a W.D W.ms ∧ RuO K CR H r W.g W.wi W.ls W.f
theorem WrO.same {K : PySem.W.Frag} {CW CR a r : Addr} {H H' : Hp} {W : Wr} (h : WrO K CW CR H a r W) (s : Same H H') : WrO K CW CR H' a r W := ⟨h.1.same s, h.2.same s⟩
theorem WrO.kp {K : PySem.W.Frag} {CW CR a r : Addr} {H H' : Hp} {W : Wr} {M : Addr → Prop} (h : WrO K CW CR H a r W) (hM : Ls M H) (k : Kp M H H') : WrO K CW CR H' a r W := ⟨h.1.kp hM k, h.2.kp hM k⟩
def spNew (K : PySem.W.Frag) (CW CR : Addr) : Sp := fun vs H Q _ => ∃ (a r l : Addr) (W : Wr) (day own m : Int) (v : V) (xs : List V) (wt : List Wt), vs = [.ref a, .ref r, .int day, v, .ref l] ∧ W.Good ∧ WrO K CW CR H a r W ∧ Dm N0 H v (pD (own, m)) ∧ (0 ≤ m ∧ m < W.ms.length) ∧ Sd day ∧ Sd own ∧
  SqL K H l xs ∧ DmAll N0 H xs (wt.map tD) ∧ wt.length ≤ 100000 ∧ Gw W wt ∧ ∀ H', Same H H' → Q (optV (newDay W day own m wt)) H'
theorem in_ints (x : Int) : ∀ ns : List Int, inV (.int x) (ns.map V.int) = decide (x ∈ ns)
  | [] => rfl
  | n :: ns => by
    have ih := in_ints x ns
    unfold inV at ih ⊢
    rw [List.map_cons, List.any_cons, ih]
    show ((n == x) || decide (x ∈ ns)) = _
    by_cases e : x = n
    · subst e
      simp
    · have e2 : (n == x) = false := by simpa using fun z => e z.symm
      rw [e2]
      simp [e]
theorem flats : ∀ ns : List Int, (ns.map V.int).all flatV = true
  | [] => rfl
  | n :: ns => by rw [List.map_cons, List.all_cons, flats ns]; rfl
theorem mem_onL {D : Int} {ms : List Mt3} {n i : Int} (h : i ∈ onL D ms n) : 0 ≤ i ∧ i < ms.length := by
  unfold onL at h
  obtain ⟨p, hp, rfl⟩ := List.mem_map.mp h
  obtain ⟨h1, _⟩ := List.mem_filter.mp hp
  obtain ⟨p1, p2⟩ := p
  have := List.mem_zipIdx h1
  have h2 := this.2.1
  simp only [Nat.zero_add] at h2
  exact ⟨Int.natCast_nonneg _, by show (p2 : Int) < _; omega⟩
theorem near_in {W : Wr} {day to : Int} {wt : List Wt} (h : Gw W wt) : ∀ o ∈ nearL W.D W.ms W.g day to wt, 0 ≤ o ∧ o < W.ms.length := by
  intro o ho
  unfold nearL at ho
  rcases List.mem_append.mp ho with z | z
  · obtain ⟨n, _, hn⟩ := List.mem_flatMap.mp z
    exact mem_onL hn
  · obtain ⟨t, ht, rfl⟩ := List.mem_map.mp z
    exact h t (List.mem_filter.mp ht).1
theorem near_len {W : Wr} (g : W.Good) (day to : Int) (wt : List Wt) : (nearL W.D W.ms W.g day to wt).length ≤ 120 + wt.length := by
  unfold nearL
  have z1 := flat_le (f := onL W.D W.ms) (k := 30) (fun n => Nat.le_trans (onL_len W.D W.ms n) g.ml) (irange (max (day + 1) (to - W.g + 1)) (to + W.g))
  have z2 := irange_len (max (day + 1) (to - W.g + 1)) (to + W.g)
  have z3 := List.length_filter_le (fun t : Wt => decide (max (day + 1) (to - W.g + 1) ≤ t.1 ∧ t.1 < to + W.g)) wt
  have g1 := g.g1
  have g2 := g.g2
  rw [List.length_append, List.length_map]
  omega
end Rw
namespace Rw
open PySem PySem.Spec PyProof.Rows L2
theorem tupos_tD (ts : List Wt) : tupos (ts.map tD) = true := tupos_map (fun _ => rfl) ts
theorem tupos_pD (ts : List (Int × Int)) : tupos (ts.map pD) = true := tupos_map (fun _ => rfl) ts
/-- another list changes -/
theorem Has.other {H : Hp} {D L : Addr} {ds : List PyData} {zs : List V} {o : HO} (h : Has H D ds) (t : tupos ds = true) (ne : D ≠ L) (e : H L = some (.lst zs)) : Has (upd H L o) D ds := by
  obtain ⟨ys, e1, h1⟩ := h
  refine ⟨ys, (upd_ne ne).trans e1, DmAll.mv (M := fun a => a = D ∨ a = L) (fun b u q m => ⟨(upd_ne fun z => m (.inr z)).trans q, fun z => m (.inl z)⟩) ds ys (DmAll.off (fun b z ws q => ?_) ds ys t h1.on)⟩
  rcases z with rfl | rfl
  · rw [e1] at q; cases q
  · rw [e] at q; cases q
theorem Has.len {H : Hp} {D : Addr} {ds : List PyData} (h : Has H D ds) : ∃ ys, H D = some (.lst ys) ∧ DmAll N0 H ys ds ∧ ys.length = ds.length := let ⟨ys, e, h⟩ := h; ⟨ys, e, h.on, h.len⟩
/-- one more put to it -/
theorem Has.push {H : Hp} {D : Addr} {ds : List PyData} {y : V} {d : PyData} {ys : List V} (h : Has H D ds) (e : H D = some (.lst ys)) (hy : Dm N0 H y d) (t : tupo d = true) : Has (upd H D (.lst (ys ++ [y]))) D (ds ++ [d]) := by
  obtain ⟨zs, e1, h1⟩ := h
  rw [e] at e1
  cases e1
  exact ⟨_, upd_same, DmAll.app (DmAll.mv (fun a o q m => ⟨(upd_ne m).trans q, m⟩) _ _ h1) (.cons (Dm.mv (fun a o q m => ⟨(upd_ne m).trans q, m⟩) _ _ (Dm.off (fun a z xs q => by rw [z, e] at q; cases q) d y t hy)) .nil)⟩
theorem dm_rev {M : Addr → Prop} {H : Hp} {β : Type} {enc : β → PyData} : ∀ {ts : List β} {xs : List V}, DmAll M H xs (ts.map enc) → DmAll M H xs.reverse (ts.reverse.map enc)
  | [], _, h => by cases h; exact .nil
  | t :: ts, _, h => by
    cases h with
    | cons h1 h2 =>
      rw [List.reverse_cons, List.reverse_cons, List.map_append]
      exact DmAll.app (dm_rev h2) (.cons h1 .nil)
def spOff (K : PySem.W.Frag) (CW CR : Addr) : Sp := fun vs H Q _ => ∃ (a r dl l : Addr) (W : Wr) (day : Int) (us xs : List V) (due : List (Int × Int)) (wt : List Wt), vs = [.ref a, .ref r, .int day, .ref dl, .ref l] ∧ W.Good ∧ WrO K CW CR H a r W ∧ Sd day ∧
  SqL K H dl us ∧ DmAll N0 H us (due.map pD) ∧ (∀ p ∈ due, Sd p.1 ∧ 0 ≤ p.2 ∧ p.2 < W.ms.length) ∧ due.length ≤ 20000 ∧ SqL K H l xs ∧ DmAll N0 H xs (wt.map tD) ∧ wt.length ≤ 20000 ∧ Gw W wt ∧
  ∀ v H', Same H H' → Dm N0 H' v (.tuple [.tuple ((putOff W day due wt).1.map tD), .tuple ((putOff W day due wt).2.map tD)]) → Q v H'
end Rw
namespace Rw
open PySem PySem.Spec PyProof.Rows L2
theorem asg_turn {K : PySem.W.Frag} {D : Ends} {σ : L2.St} {H : Hp} {g : TG} {C r dr dl lt : Addr} {gp wi : Int} {f : Bool} {us : List V} (h1 : σ[1]? = some (some (.ref r))) (h3 : σ[3]? = some (some (.ref dl))) (hr : H r = some (.ins C dr [("gap", .int gp), ("window", .int wi), ("let", .ref lt), ("order", .str (ordS f))])) (c : Cls K C) (n : NoAttr K C "order") (hs : SqL K H dl us)
    (main : ∀ p H1, Same H H1 → SqL K H1 p (if f then us else us.reverse) → g (.ref p) σ H1 D.nx) :
    tAsg (tIf (tTest (tOp rEq (tFld K (tVar 1) "order") (tC (.str "first")))) (tVar 3) (tRev K (tVar 3) (tUn (rU fun i => V.int (-i)) (tC (.int 1))))) g D σ H := by
  refine ⟨_, h1, r, C, dr, _, _, rfl, hr, c, n, rfl, rfl, _, rfl, ?_⟩
  cases f with
  | true => exact ite2 (fun _ => ⟨_, h3, main dl H (Same.refl H) hs⟩) fun z => absurd (decide_eq_true rfl) z
  | false =>
    refine ite2 (fun z => absurd z (by decide)) fun _ => ⟨_, h3, 1, rfl, dl, us, rfl, rfl, hs, fun p hp => main p _ (same_new hp) (SqL.of upd_same)⟩
end Rw
namespace Rw
open PySem PySem.Spec PyProof.Rows L2
theorem off_len (W : Wr) (day : Int) : ∀ (l : List (Int × Int)) (st : List Wt × List Wt), (l.foldl (stepOff W day) st).1.length ≤ st.1.length + l.length ∧ (l.foldl (stepOff W day) st).2.length ≤ st.2.length + l.length
  | [], _ => ⟨Nat.le_refl _, Nat.le_refl _⟩
  | p :: l, st => by
    have ih := off_len W day l (stepOff W day st p)
    have e : (stepOff W day st p).1.length ≤ st.1.length + 1 ∧ (stepOff W day st p).2.length ≤ st.2.length + 1 := by
      unfold stepOff
      split
      · exact ⟨by rw [List.length_append]; exact Nat.le_refl _, Nat.le_succ _⟩
      · exact ⟨Nat.le_succ _, by rw [List.length_append]; exact Nat.le_refl _⟩
    rw [List.foldl_cons, List.length_cons]
    omega
theorem off_gw (W : Wr) (day : Int) : ∀ (l : List (Int × Int)) (st : List Wt × List Wt), (∀ p ∈ l, 0 ≤ p.2 ∧ p.2 < W.ms.length) → Gw W st.2 → Gw W (l.foldl (stepOff W day) st).2
  | [], _, _, g => g
  | p :: l, st, h, g => by
    rw [List.foldl_cons]
    refine off_gw W day l _ (fun q hq => h q (List.mem_cons_of_mem _ hq)) ?_
    unfold stepOff
    split
    · exact g
    · intro t ht
      rcases List.mem_append.mp ht with z | z
      · exact g t z
      · rw [List.mem_singleton.mp z]
        exact h p List.mem_cons_self
end Rw
namespace Rw
open PySem PySem.Spec PyProof.Rows L2
def dayD (r : List (Int × Int) × List Wt × List Wt) : PyData := .tuple [.tuple (r.1.map pD), .tuple (r.2.1.map tD), .tuple (r.2.2.map tD)]
def spDay (K : PySem.W.Frag) (CW CR : Addr) : Sp := fun vs H Q _ => ∃ (a r l : Addr) (W : Wr) (day : Int) (xs : List V) (wt : List Wt) (rainy : Bool), vs = [.ref a, .ref r, .int day, .ref l, .bl rainy] ∧ W.Good ∧ WrO K CW CR H a r W ∧ Sd day ∧
  (SqL K H l xs ∨ SqT K H l xs) ∧ DmAll N0 H xs (wt.map tD) ∧ wt.length ≤ 10000 ∧ Gw W wt ∧ (∀ t ∈ wt, Sd t.2.1) ∧ ∀ v H', Same H H' → Dm N0 H' v (dayD (playDay W day wt rainy)) → Q v H'
theorem due_len (W : Wr) (g : W.Good) (day : Int) (wt : List Wt) : (dueL W day wt).length ≤ 30 + wt.length := by
  unfold dueL sortP
  rw [(isort_perm _).length_eq, List.length_append, List.length_map, List.length_map]
  have := List.length_filter_le (fun t : Wt => decide (t.1 = day)) wt
  have := onL_len W.D W.ms day
  have := g.ml
  omega
theorem due_ok (W : Wr) (day : Int) (wt : List Wt) (sd : Sd day) (gw : Gw W wt) (so : ∀ t ∈ wt, Sd t.2.1) : ∀ p ∈ dueL W day wt, Sd p.1 ∧ 0 ≤ p.2 ∧ p.2 < W.ms.length := by
  intro p hp
  unfold dueL sortP at hp
  rcases List.mem_append.mp ((isort_perm _).mem_iff.mp hp) with z | z
  · obtain ⟨m, hm, rfl⟩ := List.mem_map.mp z
    exact ⟨sd, mem_onL hm⟩
  · obtain ⟨t, ht, rfl⟩ := List.mem_map.mp z
    have := (List.mem_filter.mp ht).1
    exact ⟨so t this, gw t this⟩
theorem later_len (day : Int) (wt : List Wt) : (laterL day wt).length ≤ wt.length := by
  unfold laterL sortT
  rw [(isort_perm _).length_eq]
  exact List.length_filter_le _ _
theorem later_mem {day : Int} {wt : List Wt} {t : Wt} (h : t ∈ laterL day wt) : t ∈ wt ∧ day < t.1 := by
  unfold laterL sortT at h
  have z := List.mem_filter.mp ((isort_perm _).mem_iff.mp h)
  exact ⟨z.1, of_decide_eq_true z.2⟩
end Rw
namespace Rw
open PySem PySem.Spec PyProof.Rows L2
theorem dec_int (a b : Int) : decide (V.int a = V.int b) = decide (a = b) := decide_eq_decide.mpr ⟨fun z => by injection z, fun z => by rw [z]⟩
theorem tup2_inv {M : Addr → Prop} {H : Hp} {v : V} {d e : PyData} (h : Dm M H v (.tuple [d, e])) : ∃ p x y, v = .ref p ∧ H p = some (.tup [x, y]) ∧ Dm M H x d ∧ Dm M H y e := by
  cases h with
  | tup _ e hs =>
    cases hs with
    | cons h1 hs =>
      cases hs with
      | cons h2 hs =>
        cases hs
        exact ⟨_, _, _, rfl, e, h1, h2⟩
theorem tup3_inv {M : Addr → Prop} {H : Hp} {v : V} {d e f : PyData} (h : Dm M H v (.tuple [d, e, f])) : ∃ p x y z, v = .ref p ∧ H p = some (.tup [x, y, z]) ∧ Dm M H x d ∧ Dm M H y e ∧ Dm M H z f := by
  cases h with
  | tup _ e hs =>
    cases hs with
    | cons h1 hs =>
      cases hs with
      | cons h2 hs =>
        cases hs with
        | cons h3 hs =>
          cases hs
          exact ⟨_, _, _, _, rfl, e, h1, h2, h3⟩
end Rw
namespace Rw
open PySem PySem.Spec PyProof.Rows L2
/-- a season so far: played, lost, waiting -/
abbrev Sea := List (List (Int × Int)) × List Wt × List Wt
def stepPl (W : Wr) (st : Sea) (d : Nat × Bool) : Sea :=
  let r := playDay W d.1 st.2.2 d.2
  (st.1 ++ [r.1], st.2.1 ++ r.2.1, r.2.2)
def playL (W : Wr) (bs : List Bool) : Sea := (bs.zipIdx.map fun p => (p.2, p.1)).foldl (stepPl W) ([], [], [])
def plD (l : List (Int × Int)) : PyData := .tuple (l.map pD)
/-- what play returns -/
def PlO (C : Addr) (H : Hp) (v : V) (s : Sea) : Prop := ∃ p dx x y z, v = .ref p ∧ H p = some (.ins C dx [("played", x), ("lost", y), ("waiting", z)]) ∧ Dm N0 H x (.tuple (s.1.map plD)) ∧ Dm N0 H y (.tuple (s.2.1.map tD)) ∧ Dm N0 H z (.tuple (s.2.2.map tD))
def spPlay (K : PySem.W.Frag) (CW CR CP : Addr) : Sp := fun vs H Q _ => ∃ (a r l : Addr) (W : Wr) (bs : List Bool), vs = [.ref a, .ref r, .ref l] ∧ W.Good ∧ WrO K CW CR H a r W ∧ (SqL K H l (bs.map V.bl) ∨ SqT K H l (bs.map V.bl)) ∧ bs.length ≤ 100 ∧
  ∀ v H', Same H H' → PlO CP H' v (playL W bs) → Q v H'
theorem off_mem (W : Wr) (day : Int) : ∀ (l : List (Int × Int)) (st : List Wt × List Wt) (t : Wt), (t ∈ (l.foldl (stepOff W day) st).1 → t ∈ st.1 ∨ ∃ p ∈ l, t = (day, p.1, p.2)) ∧ (t ∈ (l.foldl (stepOff W day) st).2 → t ∈ st.2 ∨ ∃ p ∈ l, ∃ to, t = (to, p.1, p.2))
  | [], _, _ => ⟨.inl, .inl⟩
  | p :: l, st, t => by
    rw [List.foldl_cons]
    obtain ⟨h1, h2⟩ := off_mem W day l (stepOff W day st p) t
    have e : (t ∈ (stepOff W day st p).1 → t ∈ st.1 ∨ t = (day, p.1, p.2)) ∧ (t ∈ (stepOff W day st p).2 → t ∈ st.2 ∨ ∃ to, t = (to, p.1, p.2)) := by
      unfold stepOff
      split
      · exact ⟨fun h => (List.mem_append.mp h).imp id List.mem_singleton.mp, .inl⟩
      · exact ⟨.inl, fun h => (List.mem_append.mp h).imp id fun z => ⟨_, List.mem_singleton.mp z⟩⟩
    refine ⟨fun h => ?_, fun h => ?_⟩
    · rcases h1 h with z | ⟨q, hq, z⟩
      · rcases e.1 z with y | y
        · exact .inl y
        · exact .inr ⟨p, List.mem_cons_self, y⟩
      · exact .inr ⟨q, List.mem_cons_of_mem _ hq, z⟩
    · rcases h2 h with z | ⟨q, hq, z⟩
      · rcases e.2 z with y | y
        · exact .inl y
        · exact .inr ⟨p, List.mem_cons_self, y⟩
      · exact .inr ⟨q, List.mem_cons_of_mem _ hq, z⟩
theorem due_later (W : Wr) (g : W.Good) (day : Int) (wt : List Wt) : (dueL W day wt).length + (laterL day wt).length ≤ 30 + wt.length := by
  have key : ∀ l : List Wt, (l.filter fun t => decide (t.1 = day)).length + (l.filter fun t => decide (day < t.1)).length ≤ l.length := by
    intro l
    induction l with
    | nil => exact Nat.le_refl _
    | cons t l ih =>
      by_cases c : t.1 = day
      · have c2 : ¬ day < t.1 := by omega
        simp only [List.filter_cons, decide_eq_true c, decide_eq_false c2, if_true, Bool.false_eq_true, if_false, List.length_cons]
        omega
      · by_cases c2 : day < t.1
        · simp only [List.filter_cons, decide_eq_false c, decide_eq_true c2, if_true, Bool.false_eq_true, if_false, List.length_cons]
          omega
        · simp only [List.filter_cons, decide_eq_false c, decide_eq_false c2, Bool.false_eq_true, if_false, List.length_cons]
          omega
  have := key wt
  unfold dueL laterL sortP sortT
  rw [(isort_perm _).length_eq, (isort_perm _).length_eq, List.length_append, List.length_map, List.length_map]
  have := onL_len W.D W.ms day
  have := g.ml
  omega
/-- what a day leaves is as it should be -/
theorem day_ok (W : Wr) (g : W.Good) (day : Int) (wt : List Wt) (b : Bool) (sd : Sd day) (gw : Gw W wt) (so : ∀ t ∈ wt, Sd t.2.1) : Gw W (playDay W day wt b).2.2 ∧ (∀ t ∈ (playDay W day wt b).2.2, Sd t.2.1) ∧ (playDay W day wt b).2.2.length ≤ wt.length + 30 ∧ (playDay W day wt b).2.1.length ≤ wt.length + 30 := by
  have dok := due_ok W day wt sd gw so
  have n1 := due_len W g day wt
  have n2 := later_len day wt
  have n3 := due_later W g day wt
  unfold playDay
  cases b with
  | false =>
    rw [if_neg Bool.false_ne_true]
    exact ⟨fun t ht => gw t (later_mem ht).1, fun t ht => so t (later_mem ht).1, by show (laterL day wt).length ≤ _; omega, Nat.zero_le _⟩
  | true =>
    rw [if_pos rfl]
    unfold putOff
    have mem : ∀ t ∈ sortT ((if W.f then dueL W day wt else (dueL W day wt).reverse).foldl (stepOff W day) ([], laterL day wt)).2, t ∈ laterL day wt ∨ ∃ p ∈ dueL W day wt, ∃ to, t = (to, p.1, p.2) := fun t ht => by
      have z := (off_mem W day _ ([], laterL day wt) t).2 ((isort_perm _).mem_iff.mp ht)
      rcases z with z | ⟨p, hp, z⟩
      · exact .inl z
      · refine .inr ⟨p, ?_, z⟩
        revert hp
        cases W.f with
        | true => exact id
        | false => exact List.mem_reverse.mp
    have ll : (if W.f then dueL W day wt else (dueL W day wt).reverse).length = (dueL W day wt).length := by
      cases W.f with
      | true => rfl
      | false => exact List.length_reverse
    have ln := off_len W day (if W.f then dueL W day wt else (dueL W day wt).reverse) ([], laterL day wt)
    refine ⟨fun t ht => ?_, fun t ht => ?_, ?_, ?_⟩
    · rcases mem t ht with z | ⟨p, hp, to, rfl⟩
      · exact gw t (later_mem z).1
      · exact (dok p hp).2
    · rcases mem t ht with z | ⟨p, hp, to, rfl⟩
      · exact so t (later_mem z).1
      · exact (dok p hp).1
    · show (sortT _).length ≤ _
      unfold sortT
      rw [(isort_perm _).length_eq]
      simp only at ln
      omega
    · show (sortT _).length ≤ _
      unfold sortT
      rw [(isort_perm _).length_eq]
      simp only [List.length_nil] at ln
      omega
end Rw
/-! own layer: xs.extend(t), t a tuple -/
namespace Rw
open PySem PySem.Spec PySem.Calls PyProof.Rows L2
theorem ext_tup (l : Addr) (items : Array Value) (n : Nat) (b : Addr) (items2 : Array Value) (n2 : Nat) (dct : Option Addr) (sl : Array (Option Value)) (hs0 : ¬(!items.isEmpty && Builtin.List.listTooLong (items.size + items2.size)) = true) (hs1 : items.size ≤ sizeLine) (hs2 : items.size + items2.size ≤ sizeLine + 1) :
    Meets (Builtin.«list.extend» ⟨[.ref l, .ref b], []⟩) (fun _ R s => s.heap.get? l = some { cls := .type "list", data := .seq items n } ∧ s.heap.get? b = some { cls := .type "tuple", dict := dct, data := .seq items2 n2, slots := sl } ∧ R (.ok (.ret Value.none)) { s with heap := s.heap.update l (Obj.mapSeq fun x => x ++ items2) }) :=
  .of_wp fun prog w A R s h => by
    obtain ⟨hp, g, d, tk, os⟩ := s
    obtain ⟨hl, hb, h⟩ := h
    have g1 := F.sub_list_set
    have f1 := AutoSeq1.idx_int
    have f2 := AutoSeq1.sub_tuple_tuple
    have f3 := AutoSeq1.sub_list_list
    have f4 := AutoSeq1.sub_tuple_list
    have f5 := AutoSeq1.sub_list_tuple
    have hz' : (items ++ items2).size ≤ sizeLine + 1 := by rw [Array.size_append]; exact hs2
    wp_walk using (wpAny_updateSeq hl rfl (hz := hs1) (_hz' := hz')), AutoSeq1.wpAny_loadPart' hl, AutoSeq1.wpAny_loadPart' hb
    exact ⟨_, rfl, h⟩
/-- xs.extend(t) -/
def rExtT (K : PySem.W.Frag) : V → List V → Hp → VK → Prop := fun x vs H Q => ∃ l b xs zs, x = .ref l ∧ vs = [.ref b] ∧ H l = some (.lst xs) ∧ SqT K H b zs ∧ xs.length + zs.length ≤ sizeLine ∧ Q .non (upd H l (.lst (xs ++ zs)))
theorem mt_extT {X : Cx} : MtM X "list.extend" (rExtT X.K) := by
  intro pins s σ H x vs v us Q I rx rv h
  obtain ⟨l, b, xs, zs, rfl, rfl, hH, hB, hz, q⟩ := h
  cases rx
  obtain ⟨u, rfl, ru⟩ := rv.one
  cases ru
  obtain ⟨z, its, n, r, hl, e⟩ := I.lstM hH
  obtain ⟨its2, r2, tp, hz2⟩ := I.tuple hB
  have hl2 := r2.length
  obtain ⟨⟨c, dct, dt, sl⟩, ho, hc, n2, hd⟩ := tp
  cases (show c = .type "tuple" from hc)
  cases (show dt = .seq its2.toArray n2 from hd)
  have hsz : its.toArray.size + its2.toArray.size ≤ sizeLine := by rw [List.size_toArray, List.size_toArray]; omega
  have hlong : ¬ (!its.toArray.isEmpty && Builtin.List.listTooLong (its.toArray.size + its2.toArray.size)) = true := by
    rw [notLongL hsz, Bool.and_false]
    exact Bool.false_ne_true
  refine call_meets F.slot_list_extend ⟨_, e, rfl⟩ F.entry_list_extend (F.args_list_extend_2 _ _) (ext_tup l its.toArray n b its2.toArray n2 dct sl hlong (by rw [List.size_toArray]; omega) (by omega)) ⟨e, ho, ?_⟩
  exact ⟨.non, _, I.lset (its' := its ++ its2) hH e (by simp) (r.append r2) (by rw [List.length_append]; omega), rfl, q⟩
end Rw
namespace Rw
open PySem PySem.Spec PyProof.Rows L2
theorem pl_ok (W : Wr) (g : W.Good) : ∀ (l : List (Nat × Bool)) (st : Sea), (∀ d ∈ l, d.1 ≤ 1000) → Gw W st.2.2 → (∀ t ∈ st.2.2, Sd t.2.1) →
    Gw W (l.foldl (stepPl W) st).2.2 ∧ (∀ t ∈ (l.foldl (stepPl W) st).2.2, Sd t.2.1) ∧ (l.foldl (stepPl W) st).2.2.length ≤ st.2.2.length + 30 * l.length ∧ (l.foldl (stepPl W) st).2.1.length ≤ st.2.1.length + l.length * (st.2.2.length + 30 * l.length + 30)
  | [], st, _, gw, so => ⟨gw, so, Nat.le_add_right _ _, Nat.le_add_right _ _⟩
  | d :: l, st, h, gw, so => by
    have hd := h d List.mem_cons_self
    obtain ⟨a1, a2, a3, a4⟩ := day_ok W g d.1 st.2.2 d.2 ⟨by omega, by omega⟩ gw so
    obtain ⟨b1, b2, b3, b4⟩ := pl_ok W g l (stepPl W st d) (fun e he => h e (List.mem_cons_of_mem _ he)) a1 a2
    have c3 : (stepPl W st d).2.2.length ≤ st.2.2.length + 30 := a3
    have c4 : (stepPl W st d).2.1.length ≤ st.2.1.length + (st.2.2.length + 30) := by
      show (st.2.1 ++ _).length ≤ _
      rw [List.length_append]
      exact Nat.add_le_add_left a4 _
    rw [List.foldl_cons, List.length_cons]
    refine ⟨b1, b2, by omega, Nat.le_trans b4 ?_⟩
    have : l.length * ((stepPl W st d).2.2.length + 30 * l.length + 30) ≤ l.length * (st.2.2.length + 30 * (l.length + 1) + 30) := Nat.mul_le_mul_left _ (by omega)
    rw [Nat.add_mul]
    omega
def dayl (bs : List Bool) : List (Nat × Bool) := bs.zipIdx.map fun p => (p.2, p.1)
theorem dayl_len (bs : List Bool) : (dayl bs).length = bs.length := by unfold dayl; rw [List.length_map, List.length_zipIdx]
theorem dayl_at {bs : List Bool} {i : Nat} {b : Bool} (h : bs[i]? = some b) : (dayl bs)[i]? = some (i, b) := by
  unfold dayl
  rw [List.getElem?_map, List.getElem?_zipIdx, h]
  simp
theorem dayl_le {bs : List Bool} (h : bs.length ≤ 100) : ∀ d ∈ dayl bs, d.1 ≤ 1000 := by
  intro d hd
  unfold dayl at hd
  obtain ⟨⟨b, k⟩, hp, rfl⟩ := List.mem_map.mp hd
  have := (List.mem_zipIdx hp).2.1
  show k ≤ 1000
  omega
theorem tupo_plD (l : List (Int × Int)) : tupo (plD l) = true := tupos_pD l
end Rw
namespace Rw
open PySem PySem.Spec PyProof.Rows L2
theorem Has.ext {H : Hp} {D : Addr} {ds es : List PyData} {ys zs : List V} (h : Has H D ds) (e : H D = some (.lst ys)) (hz : DmAll N0 H zs es) (t : tupos es = true) : Has (upd H D (.lst (ys ++ zs))) D (ds ++ es) := by
  obtain ⟨ws, e1, h1⟩ := h
  rw [e] at e1
  cases e1
  exact ⟨_, upd_same, DmAll.app (DmAll.mv (fun a o q m => ⟨(upd_ne m).trans q, m⟩) _ _ h1) (DmAll.mv (fun a o q m => ⟨(upd_ne m).trans q, m⟩) _ _ (DmAll.off (fun a z xs q => by rw [z, e] at q; cases q) es zs t hz))⟩
theorem tupn_inv {M : Addr → Prop} {H : Hp} {v : V} {ds : List PyData} (h : Dm M H v (.tuple ds)) : ∃ p xs, v = .ref p ∧ H p = some (.tup xs) ∧ DmAll M H xs ds := by
  cases h with
  | tup _ e hs => exact ⟨_, _, rfl, e, hs⟩
/-- an instance and its dict are made and written -/
theorem made_same {H H' : Hp} {C x dx : Addr} (hx : H x = none) (hdx : H dx = none) (k : Kp (· = x) (upd (upd H dx (.own x)) x (.ins C dx [])) H') : Same H H' := fun b u e => by
  have n1 := ne_of_none e hx
  have n2 := ne_of_none e hdx
  exact k b u ((upd_ne n1).trans ((upd_ne n2).trans e)) n1
end Rw
namespace Rw
theorem pl_len (W : Wr) : ∀ (l : List (Nat × Bool)) (st : Sea), (l.foldl (stepPl W) st).1.length = st.1.length + l.length
  | [], _ => rfl
  | d :: l, st => by
    rw [List.foldl_cons, pl_len W l]
    show (st.1 ++ [_]).length + l.length = _
    rw [List.length_append, List.length_cons, List.length_cons, List.length_nil]
    omega
end Rw
/-! own layer: weeks, rules made of written things; plays worked out -/
namespace Rw
open PySem PySem.Spec PyProof.Rows L2
theorem asc_eq : ∀ {a b : List Int}, a.Pairwise (· < ·) → b.Pairwise (· < ·) → (∀ k, k ∈ a ↔ k ∈ b) → a = b
  | [], [], _, _, _ => rfl
  | [], y :: b, _, _, h => absurd ((h y).mpr List.mem_cons_self) (by simp)
  | x :: a, [], _, _, h => absurd ((h x).mp List.mem_cons_self) (by simp)
  | x :: a, y :: b, ha, hb, h => by
    cases ha with
    | cons h1 h2 =>
      cases hb with
      | cons h3 h4 =>
        have e : x = y := by
          rcases List.mem_cons.mp ((h x).mp List.mem_cons_self) with z | z
          · exact z
          · rcases List.mem_cons.mp ((h y).mpr List.mem_cons_self) with u | u
            · exact u.symm
            · have := h3 x z
              have := h1 y u
              omega
        subst e
        refine congrArg (x :: ·) (asc_eq h2 h4 fun k => ⟨fun m => ?_, fun m => ?_⟩)
        · rcases List.mem_cons.mp ((h k).mp (List.mem_cons_of_mem _ m)) with z | z
          · have := h1 k m
            omega
          · exact z
        · rcases List.mem_cons.mp ((h k).mpr (List.mem_cons_of_mem _ m)) with z | z
          · have := h3 k m
            omega
          · exact z
section
variable {K : PySem.W.Frag} {C : Addr} {σ : L2.St} {H : Hp} {Q : VK} {t : TA}
theorem mk_ruleAt {g wi : Int} {ns : List Int} {f : Bool} (g1 : 1 ≤ g) (g2 : g ≤ 2) (w1 : 1 ≤ wi) (nl : ns.length ≤ 60) (n0 : ∀ n ∈ ns, 0 ≤ n) (pw : ns.Pairwise (· < ·)) {l : Addr} {H1 : Hp} (s : Same H H1) (hl : SqL K H1 l (ns.map V.int) ∨ SqT K H1 l (ns.map V.int))
    (q : ∀ r H', Same H H' → RuO K C H' r g wi ns f → Q (.ref r) H') : ∀ x dx, H1 x = none → H1 dx = none → dx ≠ x → spRuleI K C [.ref x, .int g, .int wi, .ref l, .str (ordS f)] (upd (upd H1 dx (.own x)) x (.ins C dx [])) (fun v H2 => v = .non ∧ Q (.ref x) H2) E0 := by
  intro x dx hx hdx nx
  have s2 : Same H1 (upd (upd H1 dx (.own x)) x (.ins C dx [])) := fun b u e => (upd_ne (ne_of_none e hx)).trans ((upd_ne (ne_of_none e hdx)).trans e)
  exact ⟨x, dx, l, g, wi, ns, f, rfl, upd_same, seq_same s2 hl, g1, g2, w1, nl, n0, fun H' ls k pl mem ru => ⟨rfl, q x H' (s.trans (made_same hx hdx k)) (asc_eq pl pw mem ▸ ru)⟩⟩
/-- Rule(g, w, let) -/
theorem mk_rule3 {g wi : Int} {ns : List Int} (g1 : 1 ≤ g) (g2 : g ≤ 2) (w1 : 1 ≤ wi) (nl : ns.length ≤ 60) (n0 : ∀ n ∈ ns, 0 ≤ n) (pw : ns.Pairwise (· < ·))
    (ht : ∀ R : List V → Hp → Prop, (∀ l H', Same H H' → (SqL K H' l (ns.map V.int) ∨ SqT K H' l (ns.map V.int)) → R [.int g, .int wi, .ref l] H') → t σ H R)
    (q : ∀ r H', Same H H' → RuO K C H' r g wi ns true → Q (.ref r) H') : tMake C (spRuleI K C) [.str "first"] E0 t σ H Q := ht _ fun l H1 s hl => mk_ruleAt (f := true) g1 g2 w1 nl n0 pw s hl q
/-- Rule(g, w, let, order) -/
theorem mk_rule4 {g wi : Int} {ns : List Int} {f : Bool} (g1 : 1 ≤ g) (g2 : g ≤ 2) (w1 : 1 ≤ wi) (nl : ns.length ≤ 60) (n0 : ∀ n ∈ ns, 0 ≤ n) (pw : ns.Pairwise (· < ·))
    (ht : ∀ R : List V → Hp → Prop, (∀ l H', Same H H' → (SqL K H' l (ns.map V.int) ∨ SqT K H' l (ns.map V.int)) → R [.int g, .int wi, .ref l, .str (ordS f)] H') → t σ H R)
    (q : ∀ r H', Same H H' → RuO K C H' r g wi ns f → Q (.ref r) H') : tMake C (spRuleI K C) [] E0 t σ H Q := ht _ fun l H1 s hl => mk_ruleAt g1 g2 w1 nl n0 pw s hl q
/-- written matches -/
def mTA : List Mt3 → TA
  | [] => tNil
  | m :: ms => tCons (tTup (tCons (tC (.int m.1)) (tCons (tC (.str m.2.1)) (tCons (tC (.str m.2.2)) tNil)))) (mTA ms)
theorem mTA_ok : ∀ (ms : List Mt3) (H : Hp) (R : List V → Hp → Prop), (∀ vs H', Same H H' → DmAll N0 H' vs (ms.map mD) → R vs H') → mTA ms σ H R
  | [], H, R, k => k [] H (Same.refl H) .nil
  | m :: ms, H, R, k => by
    refine ⟨by show 3 ≤ sizeLine; rw [sizeLine_eq]; omega, fun p hp => ?_⟩
    refine mTA_ok ms _ _ fun vs H' s d => k _ H' ((same_new hp).trans s) (.cons (mD_of (s _ _ upd_same)) d)
/-- Week(D, [..]) -/
theorem mk_week {D : Int} {ms : List Mt3} (h1 : 1 ≤ D) (hl : ms.length ≤ 30) (hn : ∀ m ∈ ms, m.2.1.length ≤ 1000 ∧ m.2.2.length ≤ 1000) (ok : areB D ms = true) (q : ∀ w H', Same H H' → WkO K C H' w D ms → Q (.ref w) H') :
    tMake C (spWeekI K C) [] E0 (tCons (tC (.int D)) (tCons (tLst (mTA ms)) tNil)) σ H Q := by
  refine mTA_ok ms H _ fun vs H1 s d => ?_
  have lv : vs.length = ms.length := by simpa using d.len
  refine ⟨by rw [lv, sizeLine_eq]; omega, fun l hl2 => fun x dx hx hdx nx => ?_⟩
  have s1 := same_new (o := .lst vs) hl2
  have s2 : Same (upd H1 l (.lst vs)) (upd (upd (upd H1 l (.lst vs)) dx (.own x)) x (.ins C dx [])) := fun b u e => (upd_ne (ne_of_none e hx)).trans ((upd_ne (ne_of_none e hdx)).trans e)
  exact ⟨x, dx, l, D, vs, ms, rfl, upd_same, .inl (s2.seq (SqL.of upd_same)), d.same (s1.trans s2), hl, hn, h1, ok, fun H' k wk => ⟨rfl, q x H' ((s.trans s1).trans (made_same hx hdx k)) wk⟩⟩
end
/-! ### worked out -/
abbrev mAB : Mt3 := (0, "ann", "bob")
theorem e1 : playL ⟨3, [mAB, (0, "cyd", "dee")], 1, 6, [0, 1, 2], true⟩ [true, true, false] = ([[], [], [(0, 0), (0, 1)]], [], []) := by decide +kernel
end Rw
namespace Rw
open PySem PySem.Spec PyProof.Rows L2
section
variable {K : PySem.W.Frag} {CW CR CP C : Addr} {σ : L2.St} {H : Hp}
/-- an expression that makes only new things gives .. -/
def GvD (te : TE) (σ : L2.St) (H : Hp) (d : PyData) : Prop := ∀ Q : VK, (∀ v H', Same H H' → Dm N0 H' v d → Q v H') → te σ H Q
def GvW (K : PySem.W.Frag) (C : Addr) (te : TE) (σ : L2.St) (H : Hp) (D : Int) (ms : List Mt3) : Prop := ∀ Q : VK, (∀ a H', Same H H' → WkO K C H' a D ms → Q (.ref a) H') → te σ H Q
def GvR (K : PySem.W.Frag) (C : Addr) (te : TE) (σ : L2.St) (H : Hp) (g wi : Int) (ls : List Int) (f : Bool) : Prop := ∀ Q : VK, (∀ a H', Same H H' → RuO K C H' a g wi ls f → Q (.ref a) H') → te σ H Q
def GvP (C : Addr) (te : TE) (σ : L2.St) (H : Hp) (s : Sea) : Prop := ∀ Q : VK, (∀ v H', Same H H' → PlO C H' v s → Q v H') → te σ H Q
def GvB (K : PySem.W.Frag) (te : TE) (σ : L2.St) (H : Hp) (bs : List Bool) : Prop := ∀ Q : VK, (∀ l H', Same H H' → H' l = some (.lst (bs.map V.bl)) → Q (.ref l) H') → te σ H Q
theorem PlO.same {v : V} {s : Sea} {H' : Hp} (h : PlO C H v s) (k : Same H H') : PlO C H' v s := by
  obtain ⟨p, dx, x, y, z, rfl, h1, h2, h3, h4⟩ := h
  exact ⟨p, dx, x, y, z, rfl, k _ _ h1, h2.same k, h3.same k, h4.same k⟩
theorem gv_play {tw tr tb : TE} {W : Wr} {bs : List Bool} (gd : W.Good) (hw : GvW K CW tw σ H W.D W.ms) (hr : ∀ H', Same H H' → GvR K CR tr σ H' W.g W.wi W.ls W.f) (hb : ∀ H', Same H H' → GvB K tb σ H' bs) (hl : bs.length ≤ 100) :
    GvP CP (tCall (spPlay K CW CR CP) [] E0 (tCons tw (tCons tr (tCons tb tNil)))) σ H (playL W bs) := fun Q q =>
  hw _ fun a H1 s1 o1 => hr H1 s1 _ fun r H2 s2 o2 => hb H2 (s1.trans s2) _ fun l H3 s3 o3 => ⟨a, r, l, W, bs, rfl, gd, ⟨o1.same (s2.trans s3), o2.same s3⟩, .inl (SqL.of o3), hl, fun v H4 s4 pl => q v H4 (((s1.trans s2).trans s3).trans s4) pl⟩
theorem gv_varW {i : Nat} {a : Addr} {D : Int} {ms : List Mt3} (h : σ[i]? = some (some (.ref a))) (o : WkO K CW H a D ms) : GvW K CW (tVar i) σ H D ms := fun _ q => ⟨_, h, q a H (Same.refl H) o⟩
theorem gv_varP {i : Nat} {v : V} {s : Sea} (h : σ[i]? = some (some v)) (o : PlO CP H v s) : GvP CP (tVar i) σ H s := fun _ q => ⟨_, h, q v H (Same.refl H) o⟩
theorem gv_played {te : TE} {s : Sea} (c : Cls K CP) (n : NoAttr K CP "played") (h : GvP CP te σ H s) : GvD (tFld K te "played") σ H (.tuple (s.1.map plD)) := fun Q q => h _ fun v H1 s1 o => by
  obtain ⟨p, dx, x, y, z, rfl, h1, h2, h3, h4⟩ := o
  exact ⟨p, CP, dx, _, x, rfl, h1, c, n, rfl, q x H1 s1 h2⟩
theorem gv_lost {te : TE} {s : Sea} (c : Cls K CP) (n : NoAttr K CP "lost") (h : GvP CP te σ H s) : GvD (tFld K te "lost") σ H (.tuple (s.2.1.map tD)) := fun Q q => h _ fun v H1 s1 o => by
  obtain ⟨p, dx, x, y, z, rfl, h1, h2, h3, h4⟩ := o
  exact ⟨p, CP, dx, _, y, rfl, h1, c, n, rfl, q y H1 s1 h3⟩
theorem gv_waiting {te : TE} {s : Sea} (c : Cls K CP) (n : NoAttr K CP "waiting") (h : GvP CP te σ H s) : GvD (tFld K te "waiting") σ H (.tuple (s.2.2.map tD)) := fun Q q => h _ fun v H1 s1 o => by
  obtain ⟨p, dx, x, y, z, rfl, h1, h2, h3, h4⟩ := o
  exact ⟨p, CP, dx, _, z, rfl, h1, c, n, rfl, q z H1 s1 h4⟩
def iTA : List Int → TA
  | [] => tNil
  | n :: ns => tCons (tC (.int n)) (iTA ns)
theorem iTA_ok : ∀ (ns : List Int) (H : Hp) (R : List V → Hp → Prop), R (ns.map V.int) H → iTA ns σ H R
  | [], _, _, q => q
  | _ :: ns, H, _, q => iTA_ok ns H _ q
def pTA : List (Int × Int) → TA
  | [] => tNil
  | p :: ps => tCons (tTup (iTA [p.1, p.2])) (pTA ps)
theorem pTA_ok : ∀ (ps : List (Int × Int)) (H : Hp) (R : List V → Hp → Prop), (∀ vs H', Same H H' → DmAll N0 H' vs (ps.map pD) → R vs H') → pTA ps σ H R
  | [], H, _, k => k [] H (Same.refl H) .nil
  | p :: ps, H, R, k => ⟨by show 2 ≤ sizeLine; rw [sizeLine_eq]; omega, fun l hl => pTA_ok ps _ _ fun vs H' s d => k _ H' ((same_new hl).trans s) (.cons (pD_of (s _ _ upd_same)) d)⟩
def wTA : List Wt → TA
  | [] => tNil
  | p :: ps => tCons (tTup (iTA [p.1, p.2.1, p.2.2])) (wTA ps)
theorem wTA_ok : ∀ (ps : List Wt) (H : Hp) (R : List V → Hp → Prop), (∀ vs H', Same H H' → DmAll N0 H' vs (ps.map tD) → R vs H') → wTA ps σ H R
  | [], H, _, k => k [] H (Same.refl H) .nil
  | p :: ps, H, R, k => ⟨by show 3 ≤ sizeLine; rw [sizeLine_eq]; omega, fun l hl => wTA_ok ps _ _ fun vs H' s d => k _ H' ((same_new hl).trans s) (.cons (tD_of (s _ _ upd_same)) d)⟩
def plTA : List (List (Int × Int)) → TA
  | [] => tNil
  | p :: ps => tCons (tTup (pTA p)) (plTA ps)
theorem plTA_ok : ∀ (ps : List (List (Int × Int))) (H : Hp) (R : List V → Hp → Prop), (∀ p ∈ ps, p.length ≤ 1000) → (∀ vs H', Same H H' → DmAll N0 H' vs (ps.map plD) → R vs H') → plTA ps σ H R
  | [], H, _, _, k => k [] H (Same.refl H) .nil
  | p :: ps, H, R, hl, k => pTA_ok p H _ fun vs H1 s d => by
    have lv : vs.length = p.length := by simpa using d.len
    have := hl p List.mem_cons_self
    refine ⟨by rw [lv, sizeLine_eq]; omega, fun l hl2 => plTA_ok ps _ _ (fun q hq => hl q (List.mem_cons_of_mem _ hq)) fun ws H' s2 d2 => k _ H' ((s.trans (same_new hl2)).trans s2) (.cons (.tup id (s2 _ _ upd_same) (d.same ((same_new hl2).trans s2))) d2)⟩
theorem gv_pl {ps : List (List (Int × Int))} (hl : ps.length ≤ 1000) (hp : ∀ p ∈ ps, p.length ≤ 1000) : GvD (tTup (plTA ps)) σ H (.tuple (ps.map plD)) := fun Q q => plTA_ok ps H _ hp fun vs H1 s d => by
  have lv : vs.length = ps.length := by simpa using d.len
  exact ⟨by rw [lv, sizeLine_eq]; omega, fun l hl2 => q _ _ (s.trans (same_new hl2)) (.tup id upd_same (d.same (same_new hl2)))⟩
theorem gv_wt {ps : List Wt} (hl : ps.length ≤ 1000) : GvD (tTup (wTA ps)) σ H (.tuple (ps.map tD)) := fun Q q => wTA_ok ps H _ fun vs H1 s d => by
  have lv : vs.length = ps.length := by simpa using d.len
  exact ⟨by rw [lv, sizeLine_eq]; omega, fun l hl2 => q _ _ (s.trans (same_new hl2)) (.tup id upd_same (d.same (same_new hl2)))⟩
/-- a slice of a tuple of data -/
def cutD (ds : List PyData) (lo hi : Option Int) : List PyData := (ds.drop (HT.sIx ds.length 0 lo)).take (HT.sIx ds.length ds.length hi - HT.sIx ds.length 0 lo)
theorem DmAll.drop {M : Addr → Prop} : ∀ (n : Nat) {xs : List V} {ds : List PyData}, DmAll M H xs ds → DmAll M H (xs.drop n) (ds.drop n)
  | 0, _, _, h => h
  | n + 1, _, _, .nil => .nil
  | n + 1, _, _, .cons _ h => DmAll.drop n h
theorem DmAll.take {M : Addr → Prop} : ∀ (n : Nat) {xs : List V} {ds : List PyData}, DmAll M H xs ds → DmAll M H (xs.take n) (ds.take n)
  | 0, _, _, _ => .nil
  | n + 1, _, _, .nil => .nil
  | n + 1, _, _, .cons h1 h => .cons h1 (DmAll.take n h)
theorem gv_cut {te : TE} {tl th : TO} {lo hi : Option Int} {ds : List PyData} (h : GvD te σ H (.tuple ds)) (hlo : ∀ H' R, R lo H' → tl σ H' R) (hhi : ∀ H' R, R hi H' → th σ H' R) : GvD (tSl (rSlA K) te tl th) σ H (.tuple (cutD ds lo hi)) := fun Q q => h _ fun v H1 s d => hlo _ _ (hhi _ _ (by
  obtain ⟨p, xs, rfl, e, dx⟩ := tupn_inv d
  have lx := dx.len
  refine ⟨p, xs, rfl, SqT.of e, fun ⟨z1, z2⟩ => ?_, fun _ r hr => ?_⟩
  · refine q _ _ s ?_
    have : cutD ds lo hi = ds := by
      unfold cutD
      rw [← lx, z1, z2, Nat.sub_zero, lx, List.drop_zero, List.take_length]
    rw [this]
    exact d
  · refine q _ _ (s.trans (same_new hr)) (.tup id upd_same ?_)
    unfold cutV cutD
    rw [← lx]
    exact ((dx.drop _).take _).same (same_new hr)))
/-- a != b of data -/
theorem ne_test {ta tb : TE} {d e : PyData} {b : Bool} {R : Bool → Hp → Prop} (ha : GvD ta σ H d) (hb : ∀ H', Same H H' → GvD tb σ H' e) (s1 : SeqAt.shaped d = true) (s2 : SeqAt.shaped e = true) (eb : PyData.eqv d e = b) (q : ∀ H', Same H H' → R (!b) H') : tTest (tOp (rNeD K) ta tb) σ H R := by
  refine ha _ fun v H1 k1 d1 => hb H1 k1 _ fun u H2 k2 d2 => ?_
  exact ⟨d, e, (d1.same k2).dp, d2.dp, s1, s2, _, rfl, eb ▸ q H2 (k1.trans k2)⟩
end
end Rw
namespace Rw
open PySem PySem.Spec PyProof.Rows L2
theorem dry_eq : ∀ n : Nat, (List.replicate n [V.bl false]).flatten = (List.replicate n false).map V.bl
  | 0 => rfl
  | n + 1 => by rw [List.replicate_succ, List.replicate_succ, List.flatten_cons, dry_eq n]; rfl
section
variable {K : PySem.W.Frag} {σ : L2.St} {H : Hp}
def bTA : List Bool → TA
  | [] => tNil
  | b :: bs => tCons (tC (.bl b)) (bTA bs)
theorem bTA_ok : ∀ (bs : List Bool) (H : Hp) (R : List V → Hp → Prop), R (bs.map V.bl) H → bTA bs σ H R
  | [], _, _, q => q
  | _ :: bs, H, _, q => bTA_ok bs H _ q
/-- [True, ..] -/
theorem gv_bs {bs : List Bool} (hl : bs.length ≤ 1000) : GvB K (tLst (bTA bs)) σ H bs := fun _ q => bTA_ok bs H _ ⟨by rw [List.length_map, sizeLine_eq]; omega, fun l hl => q l _ (same_new hl) upd_same⟩
/-- a list held by a name -/
theorem gv_varB {i : Nat} {l : Addr} {bs : List Bool} (h : σ[i]? = some (some (.ref l))) (e : H l = some (.lst (bs.map V.bl))) : GvB K (tVar i) σ H bs := fun _ q => ⟨_, h, q l H (Same.refl H) e⟩
theorem gv_cat {ta tb : TE} {as bs : List Bool} (ha : GvB K ta σ H as) (hb : ∀ H', Same H H' → GvB K tb σ H' bs) (hl : as.length + bs.length ≤ 1000) : GvB K (tOp rCat ta tb) σ H (as ++ bs) := fun _ q =>
  ha _ fun l H1 s1 e1 => hb H1 s1 _ fun m H2 s2 e2 => ⟨l, m, _, _, rfl, rfl, s2 _ _ e1, e2, by rw [List.length_map, List.length_map, sizeLine_eq]; omega, fun p hp => q p _ ((s1.trans s2).trans (same_new hp)) (by rw [upd_same, List.map_append])⟩
theorem gv_rep {b : Bool} {n : Nat} (hn : n ≤ 1000) : GvB K (tOp rRep (tLst (tCons (tC (.bl b)) tNil)) (tC (.int n))) σ H (List.replicate n b) := fun _ q =>
  ⟨by show 1 ≤ sizeLine; rw [sizeLine_eq]; omega, fun l hl => ⟨l, n, _, rfl, rfl, upd_same, by omega, by omega, by show 1 * (n : Int).toNat ≤ sizeLine; rw [sizeLine_eq]; simp; omega, fun p hp => q p _ ((same_new hl).trans (same_new hp)) (by
    rw [upd_same]
    congr 2
    have key : ∀ n : Nat, (List.replicate n [V.bl b]).flatten = (List.replicate n b).map V.bl := by
      intro n
      induction n with
      | zero => rfl
      | succ n ih => rw [List.replicate_succ, List.replicate_succ, List.flatten_cons, ih]; rfl
    exact key n)⟩⟩
end
end Rw
namespace Rw
open PySem PySem.Spec PyProof.Rows L2
theorem go_asg {te : TE} {g : TG} {B : TS} {D : Ends} {σ : L2.St} {H : Hp} (h : te σ H fun v H1 => g v σ H1 fun σ2 H2 => B D σ2 H2) : tSeq (tAsg te g) B D σ H := h
theorem go_if {c : TT} {t u B : TS} {D : Ends} {σ : L2.St} {H : Hp} (h : c σ H fun b H1 => if b = true then t { D with nx := fun σ2 H2 => B D σ2 H2 } σ H1 else u { D with nx := fun σ2 H2 => B D σ2 H2 } σ H1) : tSeq (tIfS c t u) B D σ H := h
theorem go_or {c d : TT} {σ : L2.St} {H : Hp} {R : Bool → Hp → Prop} (h : c σ H fun b H1 => if b = true then R true H1 else d σ H1 R) : tOr c d σ H R := h
end Rw
namespace Rw
open PySem PySem.Spec PyProof.Rows L2
theorem go_next {D : Ends} {σ : L2.St} {H : Hp} (h : D.nx σ H) : tNext D σ H := h
end Rw
namespace Rw
open PySem PySem.Spec PyProof.Rows L2
theorem go_ifL {c : TT} {t u : TS} {D : Ends} {σ : L2.St} {H : Hp} (h : c σ H fun b H1 => if b = true then t D σ H1 else u D σ H1) : tIfS c t u D σ H := h
end Rw
namespace L17
open PySem PySem.Spec PyProof.Rows L2 Rw
/-! own short words: a place of a heap, a sequence there, unlike places, the next steps of a reading -/
local macro_rules
  | `(tactic| walk_at "ne") => `(tactic| first | assumption | exact Ne.symm (by assumption) | exact nw1 (by assumption) (by walk_at "hl") | exact nw2 (by assumption) (by walk_at "hl") | omega)
local macro_rules
  | `(tactic| walk_at "hl") => `(tactic| first | exact upd_same | assumption | (with_reducible refine (upd_ne (by walk_at "ne")).trans ?_; walk_at "hl"))
local macro_rules
  | `(tactic| walk_at "sq") => `(tactic| first
    | (show SqL _ _ _ _; first | assumption | exact SqL.of (by walk_at "hl"))
    | (show SqT _ _ _ _; first | assumption | exact SqT.of (by walk_at "hl"))
    | (show _ ∨ _; first | (refine Or.inl ?_; walk_at "sq") | (refine Or.inr ?_; walk_at "sq")))
local macro_rules
  | `(tactic| walk_at "cd") => `(tactic| first | assumption | exact sz (Nat.le_of_ble_eq_true rfl) | (first | omega | (dsimp only; omega)) | exact ⟨by omega, by omega⟩ | exact Or.inl ⟨by omega, by omega⟩ | exact Or.inr ⟨by omega, by omega⟩ | exact Or.inl ⟨by decide, by decide⟩ | exact Or.inr ⟨by decide, by decide⟩ | decide)
local macro_rules
  | `(tactic| walk_at "r1") => `(tactic| first
    | refine ⟨_, rfl, ?_⟩
    | refine ⟨_, _, rfl, rfl, ?_⟩
    | refine ⟨_, _, rfl, rfl, (by walk_at "cd"), ?_⟩
    | refine ⟨_, _, _, _, rfl, rfl, (by walk_at "sq"), rfl, ?_⟩
    | refine ⟨_, _, _, _, rfl, rfl, (by walk_at "hl"), rfl, ?_⟩
    | refine Or.inl ⟨_, rfl, ?_⟩
    | refine ⟨_, _, rfl, (by walk_at "sq"), ?_⟩
    | refine ⟨_, _, rfl, (by walk_at "sq"), rfl, ?_⟩
    | refine ⟨(_ : Int), (_ : Int), rfl, ?_⟩
    | refine And.intro rfl ?_
    | refine And.intro (by walk_at "cd") ?_)
local macro_rules
  | `(tactic| walk_at "rd") => `(tactic| repeat walk_at "r1")
def topS (i : Nat) : Stmt := PySem.Challenge.pw_rainweeks_k17_plays_known_by_hand.main.body.getD i (.Pass ⟨0, 0, 0, 0⟩)
abbrev sIsIntegerFrom : Stmt := topS 10
abbrev NIsIntegerFrom : List Str := ["value", "least"]
theorem scIsIntegerFrom : FnScope NIsIntegerFrom ["value", "least"] (defScope sIsIntegerFrom) := ⟨rfl, rfl, rfl, by decide +kernel, rfl, by decide +kernel, by decide +kernel⟩
abbrev sIsNumber : Stmt := topS 11
abbrev NIsNumber : List Str := ["value"]
theorem scIsNumber : FnScope NIsNumber ["value"] (defScope sIsNumber) := ⟨rfl, rfl, rfl, by decide +kernel, rfl, by decide +kernel, by decide +kernel⟩
abbrev sIsSequence : Stmt := topS 12
abbrev NIsSequence : List Str := ["value"]
theorem scIsSequence : FnScope NIsSequence ["value"] (defScope sIsSequence) := ⟨rfl, rfl, rfl, by decide +kernel, rfl, by decide +kernel, by decide +kernel⟩
abbrev sIsName : Stmt := topS 13
abbrev NIsName : List Str := ["value", "letter"]
theorem scIsName : FnScope NIsName ["value"] (defScope sIsName) := ⟨rfl, rfl, rfl, by decide +kernel, rfl, by decide +kernel, by decide +kernel⟩
abbrev sAsRain : Stmt := topS 16
abbrev NAsRain : List Str := ["value", "at", "thing"]
theorem scAsRain : FnScope NAsRain ["value"] (defScope sAsRain) := ⟨rfl, rfl, rfl, by decide +kernel, rfl, by decide +kernel, by decide +kernel⟩
abbrev sPlayedInit : Stmt := inClass (topS 18) 0
abbrev NPlayedInit : List Str := ["self", "played", "lost", "waiting"]
theorem scPlayedInit : FnScope NPlayedInit ["self", "played", "lost", "waiting"] (defScope sPlayedInit) := ⟨rfl, rfl, rfl, by decide +kernel, rfl, by decide +kernel, by decide +kernel⟩
abbrev sPlay : Stmt := topS 19
abbrev NPlay : List Str := ["week", "rule", "rain", "played", "lost", "waiting", "day", "is_rainy", "done", "gone"]
theorem scPlay : FnScope NPlay ["week", "rule", "rain"] (defScope sPlay) := ⟨rfl, rfl, rfl, by decide +kernel, rfl, by decide +kernel, by decide +kernel⟩
abbrev sPlayDay : Stmt := topS 20
abbrev NPlayDay : List Str := ["week", "rule", "day", "waiting", "is_rainy", "put_here", "to", "own_day", "match", "due", "later", "wait", "lost", "waits"]
theorem scPlayDay : FnScope NPlayDay ["week", "rule", "day", "waiting", "is_rainy"] (defScope sPlayDay) := ⟨rfl, rfl, rfl, by decide +kernel, rfl, by decide +kernel, by decide +kernel⟩
abbrev sPutOff : Stmt := topS 21
abbrev NPutOff : List Str := ["week", "rule", "day", "due", "waiting", "in_turn", "lost", "waits", "own_day", "match", "to"]
theorem scPutOff : FnScope NPutOff ["week", "rule", "day", "due", "waiting"] (defScope sPutOff) := ⟨rfl, rfl, rfl, by decide +kernel, rfl, by decide +kernel, by decide +kernel⟩
abbrev sNewDay : Stmt := topS 22
abbrev NNewDay : List Str := ["week", "rule", "day", "due", "waiting", "own_day", "match", "to"]
theorem scNewDay : FnScope NNewDay ["week", "rule", "day", "due", "waiting"] (defScope sNewDay) := ⟨rfl, rfl, rfl, by decide +kernel, rfl, by decide +kernel, by decide +kernel⟩
abbrev sMatchesNear : Stmt := topS 23
abbrev NMatchesNear : List Str := ["week", "rule", "day", "to", "waiting", "near", "own", "later", "match", "_"]
theorem scMatchesNear : FnScope NMatchesNear ["week", "rule", "day", "to", "waiting"] (defScope sMatchesNear) := ⟨rfl, rfl, rfl, by decide +kernel, rfl, by decide +kernel, by decide +kernel⟩
abbrev sIsBarred : Stmt := topS 24
abbrev NIsBarred : List Str := ["week", "match", "others", "_", "sides", "other", "side"]
theorem scIsBarred : FnScope NIsBarred ["week", "match", "others"] (defScope sIsBarred) := ⟨rfl, rfl, rfl, by decide +kernel, rfl, by decide +kernel, by decide +kernel⟩
abbrev sRuleInit : Stmt := inClass (topS 27) 0
abbrev NRuleInit : List Str := ["self", "gap", "window", "let", "order", "day"]
theorem scRuleInit : FnScope NRuleInit ["self", "gap", "window", "let", "order"] (defScope sRuleInit) := ⟨rfl, rfl, rfl, by decide +kernel, rfl, by decide +kernel, by decide +kernel⟩
abbrev sWeekInit : Stmt := inClass (topS 29) 0
abbrev NWeekInit : List Str := ["self", "days", "matches"]
theorem scWeekInit : FnScope NWeekInit ["self", "days", "matches"] (defScope sWeekInit) := ⟨rfl, rfl, rfl, by decide +kernel, rfl, by decide +kernel, by decide +kernel⟩
abbrev sWeekOn : Stmt := inClass (topS 29) 2
abbrev NWeekOn : List Str := ["self", "day", "own_day", "at", "match"]
theorem scWeekOn : FnScope NWeekOn ["self", "day"] (defScope sWeekOn) := ⟨rfl, rfl, rfl, by decide +kernel, rfl, by decide +kernel, by decide +kernel⟩
abbrev sAreMatches : Stmt := topS 30
abbrev NAreMatches : List Str := ["value", "days", "thing", "places", "day", "one", "other", "side"]
theorem scAreMatches : FnScope NAreMatches ["value", "days"] (defScope sAreMatches) := ⟨rfl, rfl, rfl, by decide +kernel, rfl, by decide +kernel, by decide +kernel⟩
abbrev sIsMatch : Stmt := topS 31
abbrev NIsMatch : List Str := ["value", "days"]
theorem scIsMatch : FnScope NIsMatch ["value", "days"] (defScope sIsMatch) := ⟨rfl, rfl, rfl, by decide +kernel, rfl, by decide +kernel, by decide +kernel⟩
abbrev sBox : Stmt := topS 34
abbrev NBox : List Str := ["_law_script", "_law_k", "_law_cell", "_law_seed"]
theorem scBox : FnScope NBox ["_law_script", "_law_k"] (defScope sBox) := ⟨rfl, rfl, rfl, by decide +kernel, rfl, by decide +kernel, by decide +kernel⟩
abbrev sTake : Stmt := topS 35
abbrev NTake : List Str := ["_law_box_here", "_law_many", "_law_digit", "_law_one"]
theorem scTake : FnScope NTake ["_law_box_here", "_law_many"] (defScope sTake) := ⟨rfl, rfl, rfl, by decide +kernel, rfl, by decide +kernel, by decide +kernel⟩
abbrev sLaw : Stmt := topS 38
abbrev NLaw : List Str := ["_law_script", "_law_k", "_law_box_here", "_law_dry", "_law_pair", "_law_done", "_law_one", "_law_both", "_law_back", "_law_order", "_law_far", "_law_swap", "_law_first", "_law_last"]
theorem scLaw : FnScope NLaw ["_law_script"] (defScope sLaw) := ⟨rfl, rfl, rfl, by decide +kernel, rfl, by decide +kernel, by decide +kernel⟩
structure Txt (K : PySem.W.Frag) (mg : Str → Option Value) where
  fIsIntegerFrom : Addr
  fdIsIntegerFrom : FuncData
  FIsIntegerFrom : Fun K "is_integer_from" "is_integer_from" sIsIntegerFrom fIsIntegerFrom fdIsIntegerFrom
  gIsIntegerFrom : mg "is_integer_from" = some (.ref fIsIntegerFrom)
  fIsNumber : Addr
  fdIsNumber : FuncData
  FIsNumber : Fun K "is_number" "is_number" sIsNumber fIsNumber fdIsNumber
  gIsNumber : mg "is_number" = some (.ref fIsNumber)
  fIsSequence : Addr
  fdIsSequence : FuncData
  FIsSequence : Fun K "is_sequence" "is_sequence" sIsSequence fIsSequence fdIsSequence
  gIsSequence : mg "is_sequence" = some (.ref fIsSequence)
  fIsName : Addr
  fdIsName : FuncData
  FIsName : Fun K "is_name" "is_name" sIsName fIsName fdIsName
  gIsName : mg "is_name" = some (.ref fIsName)
  fAsRain : Addr
  fdAsRain : FuncData
  FAsRain : Fun K "as_rain" "as_rain" sAsRain fAsRain fdAsRain
  gAsRain : mg "as_rain" = some (.ref fAsRain)
  fPlayedInit : Addr
  fdPlayedInit : FuncData
  FPlayedInit : Fun K "__init__" "Played.__init__" sPlayedInit fPlayedInit fdPlayedInit
  fPlay : Addr
  fdPlay : FuncData
  FPlay : Fun K "play" "play" sPlay fPlay fdPlay
  gPlay : mg "play" = some (.ref fPlay)
  fPlayDay : Addr
  fdPlayDay : FuncData
  FPlayDay : Fun K "play_day" "play_day" sPlayDay fPlayDay fdPlayDay
  gPlayDay : mg "play_day" = some (.ref fPlayDay)
  fPutOff : Addr
  fdPutOff : FuncData
  FPutOff : Fun K "_put_off" "_put_off" sPutOff fPutOff fdPutOff
  gPutOff : mg "_put_off" = some (.ref fPutOff)
  fNewDay : Addr
  fdNewDay : FuncData
  FNewDay : Fun K "_new_day" "_new_day" sNewDay fNewDay fdNewDay
  gNewDay : mg "_new_day" = some (.ref fNewDay)
  fMatchesNear : Addr
  fdMatchesNear : FuncData
  FMatchesNear : Fun K "_matches_near" "_matches_near" sMatchesNear fMatchesNear fdMatchesNear
  gMatchesNear : mg "_matches_near" = some (.ref fMatchesNear)
  fIsBarred : Addr
  fdIsBarred : FuncData
  FIsBarred : Fun K "_is_barred" "_is_barred" sIsBarred fIsBarred fdIsBarred
  gIsBarred : mg "_is_barred" = some (.ref fIsBarred)
  fRuleInit : Addr
  fdRuleInit : FuncData
  FRuleInit : FunD K "__init__" "Rule.__init__" (defArgs sRuleInit) (defBody sRuleInit) (defScope sRuleInit) [.str "first"] [] fRuleInit fdRuleInit
  fWeekInit : Addr
  fdWeekInit : FuncData
  FWeekInit : Fun K "__init__" "Week.__init__" sWeekInit fWeekInit fdWeekInit
  fWeekOn : Addr
  fdWeekOn : FuncData
  FWeekOn : Fun K "on" "Week.on" sWeekOn fWeekOn fdWeekOn
  fAreMatches : Addr
  fdAreMatches : FuncData
  FAreMatches : Fun K "_are_matches" "_are_matches" sAreMatches fAreMatches fdAreMatches
  gAreMatches : mg "_are_matches" = some (.ref fAreMatches)
  fIsMatch : Addr
  fdIsMatch : FuncData
  FIsMatch : Fun K "_is_match" "_is_match" sIsMatch fIsMatch fdIsMatch
  gIsMatch : mg "_is_match" = some (.ref fIsMatch)
  fBox : Addr
  fdBox : FuncData
  FBox : Fun K "_law_box" "_law_box" sBox fBox fdBox
  gBox : mg "_law_box" = some (.ref fBox)
  fTake : Addr
  fdTake : FuncData
  FTake : Fun K "_law_take" "_law_take" sTake fTake fdTake
  gTake : mg "_law_take" = some (.ref fTake)
  fLaw : Addr
  fdLaw : FuncData
  FLaw : Fun K "law" "law" sLaw fLaw fdLaw
  gLaw : mg "law" = some (.ref fLaw)
  CRule : Addr
  gRule : mg "Rule" = some (.ref CRule)
  clRule : Cls K CRule
  MRule : Mk K CRule fRuleInit
  nRule_gap : NoAttr K CRule "gap"
  nRule_window : NoAttr K CRule "window"
  nRule_let : NoAttr K CRule "let"
  nRule_order : NoAttr K CRule "order"
  CWeek : Addr
  gWeek : mg "Week" = some (.ref CWeek)
  clWeek : Cls K CWeek
  MWeek : Mk K CWeek fWeekInit
  nWeek_days : NoAttr K CWeek "days"
  nWeek_matches : NoAttr K CWeek "matches"
  mWeekOn : Meth K CWeek "on" fWeekOn
  CPlayed : Addr
  gPlayed : mg "Played" = some (.ref CPlayed)
  clPlayed : Cls K CPlayed
  MPlayed : Mk K CPlayed fPlayedInit
  nPlayed_played : NoAttr K CPlayed "played"
  nPlayed_lost : NoAttr K CPlayed "lost"
  nPlayed_waiting : NoAttr K CPlayed "waiting"
  aORDERS : Addr
  gORDERS : mg "ORDERS" = some (.ref aORDERS)
  qORDERS : ∀ H : Hp, SqT K H aORDERS [V.str "first", V.str "last"]
  kLETTERS : Tok
  gLETTERS : mg "LETTERS" = some (.str "abcdefghijklmnopqrstuvwxyz" kLETTERS)
  m_len : mg "len" = none
  m_abs : mg "abs" = none
  m_int : mg "int" = none
  m_range : mg "range" = none
  m_max : mg "max" = none
  m_min : mg "min" = none
  m_tuple : mg "tuple" = none
  m_list : mg "list" = none
  m_isinstance : mg "isinstance" = none
  m_all : mg "all" = none
  m_any : mg "any" = none
  m_sorted : mg "sorted" = none
  m_set : mg "set" = none
  m_str : mg "str" = none
  m_bool : mg "bool" = none
  m_enumerate : mg "enumerate" = none
theorem bIsIntegerFrom {K : PySem.W.Frag} {mg : Str → Option Value} (T : Txt K mg) : Binds K T.fdIsIntegerFrom ["value", "least"] [] := T.FIsIntegerFrom.binds fun _ _ _ _ _ _ us hl => match us, hl with | [_, _], _ => rfl
theorem bIsNumber {K : PySem.W.Frag} {mg : Str → Option Value} (T : Txt K mg) : Binds K T.fdIsNumber ["value"] [] := T.FIsNumber.binds fun _ _ _ _ _ _ us hl => match us, hl with | [_], _ => rfl
theorem bIsSequence {K : PySem.W.Frag} {mg : Str → Option Value} (T : Txt K mg) : Binds K T.fdIsSequence ["value"] [] := T.FIsSequence.binds fun _ _ _ _ _ _ us hl => match us, hl with | [_], _ => rfl
theorem bIsName {K : PySem.W.Frag} {mg : Str → Option Value} (T : Txt K mg) : Binds K T.fdIsName ["value"] [] := T.FIsName.binds fun _ _ _ _ _ _ us hl => match us, hl with | [_], _ => rfl
theorem bAsRain {K : PySem.W.Frag} {mg : Str → Option Value} (T : Txt K mg) : Binds K T.fdAsRain ["value"] [] := T.FAsRain.binds fun _ _ _ _ _ _ us hl => match us, hl with | [_], _ => rfl
theorem bPlayedInit {K : PySem.W.Frag} {mg : Str → Option Value} (T : Txt K mg) : Binds K T.fdPlayedInit ["self", "played", "lost", "waiting"] [] := T.FPlayedInit.binds fun _ _ _ _ _ _ us hl => match us, hl with | [_, _, _, _], _ => rfl
theorem bPlay {K : PySem.W.Frag} {mg : Str → Option Value} (T : Txt K mg) : Binds K T.fdPlay ["week", "rule", "rain"] [] := T.FPlay.binds fun _ _ _ _ _ _ us hl => match us, hl with | [_, _, _], _ => rfl
theorem bPlayDay {K : PySem.W.Frag} {mg : Str → Option Value} (T : Txt K mg) : Binds K T.fdPlayDay ["week", "rule", "day", "waiting", "is_rainy"] [] := T.FPlayDay.binds fun _ _ _ _ _ _ us hl => match us, hl with | [_, _, _, _, _], _ => rfl
theorem bPutOff {K : PySem.W.Frag} {mg : Str → Option Value} (T : Txt K mg) : Binds K T.fdPutOff ["week", "rule", "day", "due", "waiting"] [] := T.FPutOff.binds fun _ _ _ _ _ _ us hl => match us, hl with | [_, _, _, _, _], _ => rfl
theorem bNewDay {K : PySem.W.Frag} {mg : Str → Option Value} (T : Txt K mg) : Binds K T.fdNewDay ["week", "rule", "day", "due", "waiting"] [] := T.FNewDay.binds fun _ _ _ _ _ _ us hl => match us, hl with | [_, _, _, _, _], _ => rfl
theorem bMatchesNear {K : PySem.W.Frag} {mg : Str → Option Value} (T : Txt K mg) : Binds K T.fdMatchesNear ["week", "rule", "day", "to", "waiting"] [] := T.FMatchesNear.binds fun _ _ _ _ _ _ us hl => match us, hl with | [_, _, _, _, _], _ => rfl
theorem bIsBarred {K : PySem.W.Frag} {mg : Str → Option Value} (T : Txt K mg) : Binds K T.fdIsBarred ["week", "match", "others"] [] := T.FIsBarred.binds fun _ _ _ _ _ _ us hl => match us, hl with | [_, _, _], _ => rfl
theorem bWeekInit {K : PySem.W.Frag} {mg : Str → Option Value} (T : Txt K mg) : Binds K T.fdWeekInit ["self", "days", "matches"] [] := T.FWeekInit.binds fun _ _ _ _ _ _ us hl => match us, hl with | [_, _, _], _ => rfl
theorem bWeekOn {K : PySem.W.Frag} {mg : Str → Option Value} (T : Txt K mg) : Binds K T.fdWeekOn ["self", "day"] [] := T.FWeekOn.binds fun _ _ _ _ _ _ us hl => match us, hl with | [_, _], _ => rfl
theorem bAreMatches {K : PySem.W.Frag} {mg : Str → Option Value} (T : Txt K mg) : Binds K T.fdAreMatches ["value", "days"] [] := T.FAreMatches.binds fun _ _ _ _ _ _ us hl => match us, hl with | [_, _], _ => rfl
theorem bIsMatch {K : PySem.W.Frag} {mg : Str → Option Value} (T : Txt K mg) : Binds K T.fdIsMatch ["value", "days"] [] := T.FIsMatch.binds fun _ _ _ _ _ _ us hl => match us, hl with | [_, _], _ => rfl
theorem bBox {K : PySem.W.Frag} {mg : Str → Option Value} (T : Txt K mg) : Binds K T.fdBox ["_law_script", "_law_k"] [] := T.FBox.binds fun _ _ _ _ _ _ us hl => match us, hl with | [_, _], _ => rfl
theorem bTake {K : PySem.W.Frag} {mg : Str → Option Value} (T : Txt K mg) : Binds K T.fdTake ["_law_box_here", "_law_many"] [] := T.FTake.binds fun _ _ _ _ _ _ us hl => match us, hl with | [_, _], _ => rfl
theorem bLaw {K : PySem.W.Frag} {mg : Str → Option Value} (T : Txt K mg) : Binds K T.fdLaw ["_law_script"] [] := T.FLaw.binds fun _ _ _ _ _ _ us hl => match us, hl with | [_], _ => rfl

section
variable {P : Program} {w : World} {K : PySem.W.Frag} {mg : Str → Option Value} {base : Heap}
theorem ok_isint (T : Txt K mg) : FnOk P w K mg base CX0 1 T.fIsIntegerFrom T.fdIsIntegerFrom ["value", "least"] (spIsInt K) := by
  refine T.FIsIntegerFrom.ok scIsIntegerFrom (fun vs H Q E h => ?_) (fun cdv A outer s H vs Q E hr h => ?_)
  · obtain ⟨v, m, rfl, _⟩ := h
    rfl
  · obtain ⟨v, m, rfl, ⟨t, ht, hi, hb⟩, q⟩ := h
    refine ⟨_, (pss_one (ps_ret (pe_and (pe_callB call_isi (by rfl) T.m_isinstance (by decide +kernel) (pa_cons (pv 0) (pa_cons (pe_bltn (v := .ty "int") (by rfl) T.m_int (by decide +kernel) rfl) pa_nil))) (pe_and (pe_not (pe_callB call_isi (by rfl) T.m_isinstance (by decide +kernel) (pa_cons (pv 0) (pa_cons (pe_bltn (v := .ty "bool") (by rfl) T.m_bool (by decide +kernel) rfl) pa_nil)))) (pe_one (pe_cmpR op_ge (pv 0) (pv 1) (nomark _))))))), ?_⟩
    refine ⟨_, rfl, v, _, t, _, _, rfl, .ty _, ht, hi, _, rfl, ite2 (fun c => ?_) (fun c => ?_)⟩
    · refine ⟨_, rfl, v, _, t, _, _, rfl, .ty _, ht, hb, _, rfl, _, rfl, ite2 (fun c2 => ?_) (fun c2 => ?_)⟩
      · cases v <;> first | (cases c; done) | (cases c2; done) | exact ⟨_, rfl, _, rfl, _, _, rfl, rfl, q⟩
      · cases v <;> first | (cases c; done) | exact absurd rfl c2 | exact q
    · cases v <;> first | exact absurd rfl c | exact q
theorem ok_isnum (T : Txt K mg) : FnOk P w K mg base CX0 2 T.fIsNumber T.fdIsNumber ["value"] (spIsNum K) := by
  have GIsIntegerFrom := ok_isint (P := P) (w := w) (base := base) T
  refine T.FIsNumber.ok scIsNumber (fun vs H Q E h => ?_) (fun cdv A outer s H vs Q E hr h => ?_)
  · obtain ⟨v, rfl, _⟩ := h
    rfl
  · obtain ⟨v, rfl, hk, q⟩ := h
    refine ⟨_, (pss_one (ps_ret (pe_call GIsIntegerFrom (hr.mono (by decide)) (by rfl) T.gIsIntegerFrom T.FIsIntegerFrom.kp (bIsIntegerFrom T) .nil pass0 (pa_cons (pv 0) (pa_cons pe_int pa_nil))))), ?_⟩
    exact ⟨_, rfl, v, 0, rfl, hk, q⟩
theorem ok_isseq (T : Txt K mg) : FnOk P w K mg base CX0 1 T.fIsSequence T.fdIsSequence ["value"] (spIsSeq K) := by
  refine T.FIsSequence.ok scIsSequence (fun vs H Q E h => ?_) (fun cdv A outer s H vs Q E hr h => ?_)
  · obtain ⟨v, t, b, rfl, _⟩ := h
    rfl
  · obtain ⟨v, t, b, rfl, ht, hk, q⟩ := h
    refine ⟨_, (pss_one (ps_ret (pe_callB call_isiT (by rfl) T.m_isinstance (by decide +kernel) (pa_cons (pv 0) (pa_cons (pe_tup (pa_cons (pe_bltn (v := .ty "list") (by rfl) T.m_list (by decide +kernel) rfl) (pa_cons (pe_bltn (v := .ty "tuple") (by rfl) T.m_tuple (by decide +kernel) rfl) pa_nil))) pa_nil))))), ?_⟩
    refine ⟨_, rfl, (by walk_at "cd"), fun p hp => ?_⟩
    refine ⟨v, p, _, t, _, b, rfl, upd_same, .cons (.ty _) (.cons (.ty _) .nil), ?_, hk, q _ (same_new hp)⟩
    exact ht.same (same_new hp)
end

section
variable {P : Program} {w : World} {K : PySem.W.Frag} {mg : Str → Option Value} {base : Heap}
theorem ok_name (T : Txt K mg) : FnOk P w K mg base CX0 1 T.fIsName T.fdIsName ["value"] spName := by
  refine T.FIsName.ok scIsName (fun vs H Q E h => ?_) (fun cdv A outer s H vs Q E hr h => ?_)
  · obtain ⟨x, rfl, _⟩ := h
    rfl
  · obtain ⟨x, rfl, xl, q⟩ := h
    refine ⟨_, (pss_one (ps_ret (pe_and (pe_callB call_isi (by rfl) T.m_isinstance (by decide +kernel) (pa_cons (pv 0) (pa_cons (pe_bltn (v := .ty "str") (by rfl) T.m_str (by decide +kernel) rfl) pa_nil))) (pe_and (pe_chain op_le op_le pe_int (pe_callB call_len_str (by rfl) T.m_len (by decide +kernel) (pa_cons (pv 0) pa_nil)) pe_int) (pe_one (pe_callB (cr_all rfl) (by rfl) T.m_all (by decide +kernel) (pa_cons (pe_lc (own := [("letter", 1)]) rfl scIsName.nd (pi_str (pv 0)) (blkOk_by (own := [("letter", 1)]) (N := NIsName) (sc := defScope sIsName) (by decide +kernel)) (fun _ _ _ _ _ => by exact pg_name (i := 1) scIsName.nd rfl (.inl rfl)) (fun _ _ _ _ _ => pts_nil) (fun _ _ _ _ _ => (pe_cmpR op_in_sign (pv 1) (pe_glob (v := .str "abcdefghijklmnopqrstuvwxyz") (by rfl) T.gLETTERS ⟨_, rfl⟩) (by rfl)))) pa_nil))))))), ?_⟩
    refine ⟨_, rfl, .str x, _, .type "str", _, true, rfl, .ty _, .base (.str x), kit_ty (by decide +kernel), _, rfl, ite2 (fun _ => ?_) (fun c => absurd rfl c)⟩
    refine ⟨_, rfl, x, rfl, by rw [sizeLine_eq]; omega, 1, _, rfl, rfl, _, rfl, ?_⟩
    have no : ∀ b : Bool, nmB x = b → b = false → Q (.bl false) H := fun b e f => by have z := q H (Same.refl H); rwa [e, f] at z
    refine ite2 (fun h1 => ?_) (fun h1 => ⟨_, rfl, ite2 (fun z => nomatch z) fun _ => no _ rfl ?_⟩)
    · refine ⟨_, 4, rfl, rfl, _, rfl, ite2 (fun h2 => ?_) (fun h2 => no _ rfl ?_)⟩
      · refine ⟨_, rfl, x, rfl, fun D hD => lcA (as := x.cps.toList) walk_str (fun c => .bool (decide (c ∈ lettersS.cps.toList))) (fun _ => true) (fun _ _ => trivial) ?_ hD (fun _ => rfl) (fun Nx i c v H1 H2 hc s y next _ => ?_) fun H' ys s e h => ?_⟩
        · show x.length ≤ 1000000
          omega
        · obtain ⟨rfl, c', hc', rfl⟩ := y
          rw [Array.getElem?_toList, hc'] at hc
          cases hc
          exact ⟨rfl, yes_if ⟨_, rfl, c, lettersS, rfl, rfl, next _ _ rfl (Same.refl _) (.bl _)⟩⟩
        · rw [List.filter_eq_self.mpr (fun _ _ => rfl)] at h
          refine ⟨D, x.cps.toList.map fun c => decide (c ∈ lettersS.cps.toList), rfl, SqL.of (e.trans ?_), ?_⟩
          · rw [show ys = _ from bools_of (M := N0) (H := H') (bs := x.cps.toList.map fun c => decide (c ∈ lettersS.cps.toList)) (by rw [List.map_map]; exact h)]
          · have z := q H' s
            rw [List.all_map]
            unfold nmB at z
            rw [decide_eq_true ⟨of_decide_eq_true h1, of_decide_eq_true h2⟩, Bool.true_and] at z
            exact z
      · unfold nmB
        rw [decide_eq_false fun z => h2 (decide_eq_true z.2)]
        rfl
    · unfold nmB
      rw [decide_eq_false fun z => h1 (decide_eq_true z.1)]
      rfl
theorem ok_match (T : Txt K mg) : FnOk P w K mg base CX0 3 T.fIsMatch T.fdIsMatch ["value", "days"] spMatch := by
  have GIsNumber := ok_isnum (P := P) (w := w) (base := base) T
  have GIsName := ok_name (P := P) (w := w) (base := base) T
  refine T.FIsMatch.ok scIsMatch (fun vs H Q E h => ?_) (fun cdv A outer s H vs Q E hr h => ?_)
  · obtain ⟨v, D, m, rfl, _⟩ := h
    rfl
  · obtain ⟨v, D, m, rfl, dm, l1, l2, q⟩ := h
    obtain ⟨a, rfl, ha⟩ := mD_inv dm
    refine ⟨_, (pss_cons (ps_if (PW.pt (pw_or (pt_not (pt_val (pe_callB call_isi (by rfl) T.m_isinstance (by decide +kernel) (pa_cons (pv 0) (pa_cons (pe_bltn (v := .ty "tuple") (by rfl) T.m_tuple (by decide +kernel) rfl) pa_nil))))) (pw_or1 (pt_cmpR op_ne (pe_callB call_len_seq (by rfl) T.m_len (by decide +kernel) (pa_cons (pv 0) pa_nil)) pe_int (nomark _)))))
    (pss_one (ps_ret pe_bl))
    pss_nil)
    (pss_one (ps_ret (pe_and (pe_call GIsNumber (hr.mono (by decide)) (by rfl) T.gIsNumber T.FIsNumber.kp (bIsNumber T) .nil pass0 (pa_cons (pe_ix ix_tup (pv 0) pe_int (fun _ _ => rfl)) pa_nil)) (pe_and (pe_cmpR op_lt (pe_ix ix_tup (pv 0) pe_int (fun _ _ => rfl)) (pv 1) (nomark _)) (pe_and (pe_call GIsName (hr.mono (by decide)) (by rfl) T.gIsName T.FIsName.kp (bIsName T) .nil pass0 (pa_cons (pe_ix ix_tup (pv 0) pe_int (fun _ _ => rfl)) pa_nil)) (pe_one (pe_call GIsName (hr.mono (by decide)) (by rfl) T.gIsName T.FIsName.kp (bIsName T) .nil pass0 (pa_cons (pe_ix ix_tup (pv 0) pe_int (fun _ _ => rfl)) pa_nil))))))))), ?_⟩
    refine ⟨_, rfl, .ref a, _, .type "tuple", _, true, rfl, .ty _, .base (.tup ha), kit_ty (by decide +kernel), ?_⟩
    refine ⟨_, rfl, ite2 (fun z => nomatch z) (fun _ => ?_)⟩
    refine ⟨_, rfl, a, _, rfl, .inr (SqT.of ha), rfl, _, rfl, ite2 (fun z => nq z rfl) (fun _ => ?_)⟩
    have no : okM D m = false → ∀ H', Same H H' → Q (.bl false) H' := fun e H' s => by have z := q H' s; rwa [e] at z
    refine ⟨_, rfl, a, _, (0 : Int), .int m.1, rfl, rfl, SqT.of ha, rfl, _, rfl, kd_int m.1, _, rfl, yn (fun c1 => ?_) fun c1 => no ?_ H (Same.refl H)⟩
    · refine ⟨_, rfl, a, _, (0 : Int), .int m.1, rfl, rfl, SqT.of ha, rfl, _, rfl, _, _, rfl, rfl, _, rfl, yn (fun c2 => ?_) fun c2 => no ?_ H (Same.refl H)⟩
      · refine ⟨_, rfl, a, _, (1 : Int), .str m.2.1, rfl, rfl, SqT.of ha, rfl, m.2.1, rfl, l1, fun H1 s1 => ⟨_, rfl, yn (fun c3 => ?_) fun c3 => no ?_ H1 s1⟩⟩
        · refine ⟨_, rfl, a, _, (2 : Int), .str m.2.2, rfl, rfl, SqT.of (s1 _ _ ha), rfl, m.2.2, rfl, l2, fun H2 s2 => ?_⟩
          have z := q H2 (s1.trans s2)
          unfold okM at z
          rw [show decide (0 ≤ m.1) = true from c1, c2, c3] at z
          exact z
        · unfold okM
          rw [c3, Bool.and_false, Bool.false_and]
      · unfold okM
        rw [c2, Bool.and_false, Bool.false_and, Bool.false_and]
    · unfold okM
      rw [show decide (0 ≤ m.1) = false from c1]
      rfl
theorem ok_are (T : Txt K mg) : FnOk P w K mg base CX0 4 T.fAreMatches T.fdAreMatches ["value", "days"] (spAre K) := by
  have GIsSequence := ok_isseq (P := P) (w := w) (base := base) T
  have GIsMatch := ok_match (P := P) (w := w) (base := base) T
  refine T.FAreMatches.ok scAreMatches (fun vs H Q E h => ?_) (fun cdv A outer s H vs Q E hr h => ?_)
  · obtain ⟨l, D, xs, ms, rfl, _⟩ := h
    rfl
  · obtain ⟨l, D, xs, ms, rfl, hs, dm, hl, hln, q⟩ := h
    have hu64 := hr.units
    refine ⟨_, (pss_cons (ps_if (PW.pt (pw_or (pt_not (pt_val (pe_call GIsSequence (hr.mono (by decide)) (by rfl) T.gIsSequence T.FIsSequence.kp (bIsSequence T) .nil pass0 (pa_cons (pv 0) pa_nil)))) (pw_or1 (pt_not (pt_val (pe_callB (cr_all rfl) (by rfl) T.m_all (by decide +kernel) (pa_cons (pe_lc (own := [("thing", 2)]) rfl scAreMatches.nd (pi_either (pi_list (pv 0)) (pi_tup (pv 0))) (blkOk_by (own := [("thing", 2)]) (N := NAreMatches) (sc := defScope sAreMatches) (by decide +kernel)) (fun _ _ _ _ _ => by exact pg_name (i := 2) scAreMatches.nd rfl (.inl rfl)) (fun _ _ _ _ _ => pts_nil) (fun _ _ _ _ _ => (pe_call GIsMatch (hr.mono (by decide)) (by rfl) T.gIsMatch T.FIsMatch.kp (bIsMatch T) .nil pass0 (pa_cons (pv 2) (pa_cons (pv 1) pa_nil))))) pa_nil)))))))
    (pss_one (ps_ret pe_bl))
    pss_nil)
    (pss_cons (ps_setLc2 (i := 3) (own := [("day", 4), ("one", 5), ("other", 6), ("side", 7)]) (g := gTup K 3 (gCons (gName 4) (gCons (gName 5) (gCons (gName 6) gNil)))) (wi1 := iTup K (tTup (tCons (tVar 5) (tCons (tVar 6) tNil)))) rfl scAreMatches.nd rfl rfl (sw_true rfl rfl rfl (by decide +kernel)) (vs1 := [7]) (pi_either (pi_list (pv 0)) (pi_tup (pv 0))) (blkOk_by (own := [("day", 4), ("one", 5), ("other", 6), ("side", 7)]) (N := NAreMatches) (sc := defScope sAreMatches) (by decide +kernel)) (by decide) (fun _ _ _ _ _ => by exact pg_tup rfl (pgs_cons (pg_name (i := 4) scAreMatches.nd rfl (.inl rfl)) (pgs_cons (pg_name (i := 5) scAreMatches.nd rfl (.inl rfl)) (pgs_cons (pg_name (i := 6) scAreMatches.nd rfl (.inl rfl)) pgs_nil)))) (fun _ _ _ _ _ => pts_nil) (fun _ _ _ _ _ => by exact (pi_tup (pe_tup (pa_cons (pv 5) (pa_cons (pv 6) pa_nil))))) (fun _ _ _ _ _ => by exact pg_name (i := 7) scAreMatches.nd rfl (.inl rfl)) (fun _ _ _ _ _ => pts_nil) (fun _ _ _ _ _ => (pe_tup (pa_cons (pv 4) (pa_cons (pv 7) pa_nil)))))
    (pss_one (ps_ret (pe_cmpR op_eq (pe_lenM (by rfl) hu64 (by rfl) T.m_len (by rfl) T.m_set (pv 3)) (pe_callB call_len_seq (by rfl) T.m_len (by decide +kernel) (pa_cons (pv 3) pa_nil)) (nomark _)))))), ?_⟩
    obtain ⟨t, ty, kt⟩ := ty_seq hs
    have lx : xs.length = ms.length := by simpa using dm.len
    refine ⟨_, rfl, .ref l, t, true, rfl, ty, kt, fun H1 s1 => ⟨_, rfl, ite2 (fun z => nomatch z) fun _ => ?_⟩⟩
    have fin : ∀ D' H' ys, Same H1 H' → H' D' = some (.lst ys) → DmAll N0 H' ys ((ms.filter fun _ => true).map fun m => PyData.bool (okM D m)) → H' D' = some (.lst ((ms.map (okM D)).map V.bl)) := fun D' H' ys s e h => by
      rw [List.filter_eq_self.mpr (fun _ _ => rfl)] at h
      rw [e, show ys = _ from bools_of (M := N0) (H := H') (bs := ms.map (okM D)) (by rw [List.map_map]; exact h)]
    have turn : ∀ D' (Nx : Hp → Prop) (i : Nat) (m : Mt3) (x : V) (H2 H3 : Hp), ms[i]? = some m → Same H1 H2 → YAt xs i H2 x H3 → (∀ y H4, true = true → Same H2 H4 → Dm N0 H4 y (.bool (okM D m)) → ∃ acc, H4 D' = some (.lst acc) ∧ acc.length < sizeLine ∧ Nx (upd H4 D' (.lst (acc ++ [y])))) →
        spMatch [x, .int D] H3 (fun y H4 => ∃ acc, H4 D' = some (.lst acc) ∧ acc.length < sizeLine ∧ Nx (upd H4 D' (.lst (acc ++ [y])))) E0 := fun D' Nx i m x H2 H3 hm s y next => by
      obtain ⟨rfl, hx⟩ := y
      obtain ⟨d, hd, dx⟩ := dm.of_at hx
      rw [List.getElem?_map, hm] at hd
      cases hd
      have lm := hln m (List.mem_of_getElem? hm)
      exact ⟨x, D, m, rfl, dx.same (s1.trans s), lm.1, lm.2, fun H4 s4 => next _ _ rfl s4 (.bl _)⟩
    refine it_seq (seq_same s1 hs) (fun _ q => ⟨_, rfl, q⟩) fun J G w1 hG D' hD' => lcA (lx ▸ w1) (fun m => .bool (okM D m)) (fun _ => true) hG (by omega) hD' (fun _ => rfl) (fun Nx i m x H2 H3 hm s y next _ => ?_) fun H2 ys s2 e h => ?_
    · exact ⟨rfl, yes_if ⟨_, rfl, _, rfl, turn D' Nx i m x H2 H3 hm s y next⟩⟩
    · refine ⟨D', _, rfl, SqL.of (fin D' H2 ys s2 e h), _, rfl, ?_⟩
      have s12 := s1.trans s2
      refine ite2 (fun c => ?_) (fun c => ?_)
      · have z := q H2 s12
        unfold areB at z
        rw [show ms.all (okM D) = false by simpa [List.all_map] using c] at z
        exact z
      · have ca : ms.all (okM D) = true := by simpa [List.all_map] using c
        refine it_seq (seq_same s12 hs) (fun _ q => ⟨_, rfl, q⟩) fun J G w2 hG2 D2 hD2 => lcO (lx ▸ w2) (fun m => (plcK m).map kD) hG2 hD2 (fun Nx i m x H3 H4 hm s3 hh y next => ?_) fun H3 ys s3 e h => ?_
        · obtain ⟨rfl, hx⟩ := y
          obtain ⟨d, hd, dx⟩ := dm.of_at hx
          rw [List.getElem?_map, hm] at hd
          cases hd
          obtain ⟨a, rfl, ha⟩ := mD_inv (dx.same (s12.trans s3))
          refine ⟨a, _, rfl, SqT.of ha, rfl, _, _, rfl, _, _, rfl, _, _, rfl, rfl, rfl, yes_if ?_⟩
          refine ⟨_, rfl, _, rfl, (by walk_at "cd"), fun p hp => ⟨p, rfl, ⟨_, SqT.of upd_same⟩, ?_⟩⟩
          have npD : p ≠ D2 := fun z => by
            obtain ⟨_, z2, _⟩ := hh
            rw [← z, hp] at z2
            cases z2
          refine inA (bs := [m.2.1, m.2.2]) (H0 := H2) (walk_tup (K := K) (a := p) (xs := [.str m.2.1, .str m.2.2])) (fun x => kD [.inl m.1, .inr x]) (fun _ => true) _ (fun H' k => SqT.of (k p _ npD upd_same)) ?_ hD2 (fun x => tupo_kD _) (s3.trans (same_new hp)) (hh.same (same_new hp)) (fun N1 k x y H5 H6 hx s5 _ y5 next5 _ => ?_) fun H5 s5 h5 => next H5 s5 ?_
          · have : (List.flatMap (fun m => (plcK m).map kD) (ms.take i)).length ≤ 60 := by
              have key : ∀ l : List Mt3, (l.flatMap fun m => (plcK m).map kD).length = 2 * l.length := by
                intro l
                induction l with
                | nil => rfl
                | cons a l ih => rw [List.flatMap_cons, List.length_append, ih]; simp [plcK]; omega
              rw [key]
              have := List.length_take_le i ms
              have := List.length_take_le' i ms
              omega
            simp only [List.length_cons, List.length_nil]
            omega
          · obtain ⟨rfl, hy⟩ := y5
            have ey : y = .str x := by
              rcases k with _ | _ | k <;> simp at hx hy <;> first | (rw [← hx, ← hy]) | skip
            rw [ey]
            exact ⟨rfl, yes_if ⟨_, rfl, _, rfl, (by walk_at "cd"), fun p hp => next5 _ _ rfl (same_new hp) (.tup id upd_same (.cons (.int _) (.cons (.str _) .nil)))⟩⟩
          · exact h5
        · rw [show (ms.flatMap fun m => (plcK m).map kD) = (places ms).map kD from (List.map_flatMap ..).symm] at h
          obtain ⟨ks, rfl, e2, hk⟩ := prs_of h
          have lk : ks.length ≤ 60 := by
            have e3 : (places ms).length = 2 * ms.length := by
              have key : ∀ l : List Mt3, (places l).length = 2 * l.length := by
                intro l
                induction l with
                | nil => rfl
                | cons a l ih => show (plcK a ++ places l).length = _; rw [List.length_append, ih]; simp [plcK]; omega
              exact key ms
            have := congrArg List.length e2
            rw [List.length_map, e3] at this
            omega
          refine ⟨_, rfl, D2, ks, rfl, SqL.of e, fun p hp => SqT.of (hk p hp), by omega, fun m hm => ⟨_, rfl, D2, _, rfl, .inl (SqL.of e), rfl, ?_⟩⟩
          have z := q H3 (s12.trans s3)
          unfold areB at z
          rw [ca, Bool.true_and] at z
          have e4 : decide (V.int (m : Int) = V.int ((ks.map fun p => V.ref p.1).length : Int)) = decide ((places ms).Nodup) := by
            rw [List.length_map]
            refine decide_eq_decide.mpr ⟨fun z => ?_, fun z => ?_⟩
            · injection z with z
              rw [← e2]
              exact hm.mp (by omega)
            · rw [hm.mpr (by rw [e2]; exact z)]
          show Q (.bl _) H3
          rw [e4]
          exact z
end

section
variable {P : Program} {w : World} {K : PySem.W.Frag} {mg : Str → Option Value} {base : Heap}
theorem ok_weekI (T : Txt K mg) : FnOk P w K mg base CX0 5 T.fWeekInit T.fdWeekInit ["self", "days", "matches"] (spWeekI K T.CWeek) := by
  have GIsIntegerFrom := ok_isint (P := P) (w := w) (base := base) T
  have GAreMatches := ok_are (P := P) (w := w) (base := base) T
  refine T.FWeekInit.ok scWeekInit (fun vs H Q E h => ?_) (fun cdv A outer s H vs Q E hr h => ?_)
  · obtain ⟨a, dx, l, D, xs, ms, rfl, _⟩ := h
    rfl
  · obtain ⟨a, dx, l, D, xs, ms, rfl, ha, hs, dm, hl, hln, hD, har, q⟩ := h
    refine ⟨_, (pss_cons (ps_if (pt_not (pt_val (pe_call GIsIntegerFrom (hr.mono (by decide)) (by rfl) T.gIsIntegerFrom T.FIsIntegerFrom.kp (bIsIntegerFrom T) .nil pass0 (pa_cons (pv 1) (pa_cons pe_int pa_nil)))))
    (pss_one ps_never)
    pss_nil)
    (pss_cons (ps_if (pt_not (pt_val (pe_call GAreMatches (hr.mono (by decide)) (by rfl) T.gAreMatches T.FAreMatches.kp (bAreMatches T) .nil pass0 (pa_cons (pv 2) (pa_cons (pv 1) pa_nil)))))
    (pss_one ps_never)
    pss_nil)
    (pss_cons (ps_fld (pv 0) (pv 1) rfl)
    (pss_one (ps_fld (pv 0) (pe_callTy call_tuple_of (by rfl) T.m_tuple (by decide +kernel) (pa_cons (pv 2) pa_nil)) rfl))))), ?_⟩
    refine ⟨_, rfl, .int D, 1, rfl, kd_int D, _, rfl, ite2 (fun z => absurd z (by simp [whole, hD])) (fun _ => ?_)⟩
    refine ⟨_, rfl, _, rfl, l, D, xs, ms, rfl, hs, dm, hl, hln, fun H1 s1 => ⟨_, rfl, ite2 (fun z => absurd z (by simp [har])) (fun _ => ?_)⟩⟩
    refine ⟨_, rfl, _, rfl, a, _, dx, _, rfl, s1 _ _ ha, T.clWeek, T.nWeek_days, by decide, ?_⟩
    have ha1 := s1 _ _ ha
    have hs1 := seq_ins (o := .ins T.CWeek dx [("days", .int D)]) (seq_same s1 hs) ha1
    have dm1 := dm_ins (o := .ins T.CWeek dx [("days", .int D)]) (dm.same s1) (tupos_mD ms) ha1
    have k1 : Kp (· = a) H (upd H1 a (.ins T.CWeek dx [("days", .int D)])) := kp_upd (Kp.of s1)
    have fin : ∀ t H2, Same (upd H1 a (.ins T.CWeek dx [("days", .int D)])) H2 → SqT K H2 t xs → Q .non (upd H2 a (.ins T.CWeek dx [("days", .int D), ("matches", .ref t)])) := fun t H2 s2 ht => by
      have e2 := s2 _ _ upd_same
      exact q _ (kp_upd (k1.tr (Kp.of s2))) ⟨dx, t, xs, upd_same, sqt_ins ht e2, dm_ins (dm1.same s2) (tupos_mD ms) e2⟩
    refine ⟨_, rfl, l, xs, rfl, ?_⟩
    rcases hs1 with hs1 | hs1
    · exact .inl ⟨hs1, fun t ht => ⟨_, rfl, a, T.CWeek, dx, [("days", .int D)], rfl, (upd_ne (ne_of_none upd_same ht)).trans upd_same, T.clWeek, T.nWeek_matches, Nat.le_of_ble_eq_true rfl, fin t _ (same_new ht) (SqT.of upd_same)⟩⟩
    · exact .inr ⟨hs1, ⟨_, rfl, a, T.CWeek, dx, [("days", .int D)], rfl, upd_same, T.clWeek, T.nWeek_matches, Nat.le_of_ble_eq_true rfl, fin l _ (Same.refl _) hs1⟩⟩
theorem ok_on (T : Txt K mg) : FnOk P w K mg base CX0 1 T.fWeekOn T.fdWeekOn ["self", "day"] (spOn K T.CWeek) := by
  refine T.FWeekOn.ok scWeekOn (fun vs H Q E h => ?_) (fun cdv A outer s H vs Q E hr h => ?_)
  · obtain ⟨a, D, ms, n, rfl, _⟩ := h
    rfl
  · obtain ⟨a, D, ms, n, rfl, ⟨dx, t, xs, ha, ht, dm⟩, hD, hD2, hl, q⟩ := h
    have lx : xs.length = ms.length := by simpa using dm.len
    refine ⟨_, (pss_cons (ps_set (i := 2) scWeekOn.nd rfl (.inr rfl) (pe_op op_modN (pv 1) (pe_fld (pv 0) rfl)))
    (pss_one (ps_ret (pe_callTy call_tuple_of (by rfl) T.m_tuple (by decide +kernel) (pa_cons (pe_lc (own := [("at", 3), ("match", 4)]) (g := gTup K 2 (gCons (gName 3) (gCons (gName 4) gNil))) rfl scWeekOn.nd (pi_enumT (by rfl) T.m_enumerate (pa_cons (pe_fld (pv 0) rfl) pa_nil)) (blkOk_by (own := [("at", 3), ("match", 4)]) (N := NWeekOn) (sc := defScope sWeekOn) (by decide +kernel)) (fun _ _ _ _ _ => by exact pg_tup rfl (pgs_cons (pg_name (i := 3) scWeekOn.nd rfl (.inl rfl)) (pgs_cons (pg_name (i := 4) scWeekOn.nd rfl (.inl rfl)) pgs_nil))) (fun _ _ _ _ _ => (pts_one (pt_cmpR op_eq (pe_ix (ix_tupK (K := K) rfl) (pv 4) pe_int (fun _ _ => rfl)) (pv 2) (nomark _)))) (fun _ _ _ _ _ => (pv 3))) pa_nil))))), ?_⟩
    refine ⟨_, rfl, _, rfl, a, T.CWeek, dx, _, .int D, rfl, ha, T.clWeek, T.nWeek_days, rfl, n, D, rfl, rfl, by omega, ?_⟩
    have lz : xs.length = ms.zipIdx.length := by rw [List.length_zipIdx]; exact lx
    refine ⟨_, rfl, a, T.CWeek, dx, _, .ref t, rfl, ha, T.clWeek, T.nWeek_matches, rfl, t, xs, rfl, ht, fun L hL => lcA (as := ms.zipIdx) (lz ▸ walk_enumT) (fun p => .int p.2) (fun p => decide (p.1.1 = n.fmod D)) (fun H' s => sqt_same s ht) (by rw [List.length_zipIdx]; omega) hL (fun _ => rfl) (fun Nx i p x H2 H3 hp s y next skip => ?_) fun H2 ys s e h => ?_⟩
    · obtain ⟨r, z1, z2, rfl, hr, rfl, e1, e2⟩ := y
      cases e1
      obtain ⟨d, hd, dx2⟩ := dm.of_at e2
      rw [List.getElem?_map] at hd
      rw [List.getElem?_zipIdx] at hp
      simp only [Nat.zero_add] at hp
      cases hm : ms[i]? with
      | none => rw [hm] at hd; cases hd
      | some m =>
        rw [hm] at hd hp
        cases hd
        cases hp
        obtain ⟨b, rfl, hb⟩ := mD_inv (dx2.same (s.trans (same_new (o := .tup [.int (i : Nat), z2]) hr)))
        refine ⟨r, _, rfl, SqT.of upd_same, rfl, _, _, rfl, _, _, rfl, rfl, rfl, ?_⟩
        have e3 : decide (V.int m.1 = V.int (n.fmod D)) = decide (m.1 = n.fmod D) := decide_eq_decide.mpr ⟨fun z => by injection z, fun z => by rw [z]⟩
        refine ⟨_, rfl, b, _, (0 : Int), .int m.1, rfl, rfl, SqT.of hb, rfl, _, rfl, rfl, _, rfl, yn (fun c => ⟨_, rfl, next _ _ (e3 ▸ c) (same_new hr) (.int _)⟩) fun c => skip _ (e3 ▸ c) (same_new hr)⟩
    · refine ⟨L, ys, rfl, .inl ⟨SqL.of e, fun r hr => q r _ (s.trans (same_new hr)) ?_⟩⟩
      rw [upd_same, show ys = _ from ints_of (M := N0) (H := H2) (ns := onL D ms n) (by unfold onL; rw [List.map_map]; exact h)]
theorem ok_ruleI (T : Txt K mg) : FnOk P w K mg base CX0 5 T.fRuleInit T.fdRuleInit ["self", "gap", "window", "let", "order"] (spRuleI K T.CRule) := by
  have GIsIntegerFrom := ok_isint (P := P) (w := w) (base := base) T
  have GIsNumber := ok_isnum (P := P) (w := w) (base := base) T
  have GIsSequence := ok_isseq (P := P) (w := w) (base := base) T
  refine T.FRuleInit.ok scRuleInit (fun vs H Q E h => ?_) (fun cdv A outer s H vs Q E hr h => ?_)
  · obtain ⟨a, dx, l, g, wi, ns, f, rfl, _⟩ := h
    rfl
  · obtain ⟨a, dx, l, g, wi, ns, f, rfl, ha, hs, g1, g2, w1, nl, n0, q⟩ := h
    refine ⟨_, PSs.nox (pss_cons (ps_if (PW.pt (pw_or (pt_not (pt_val (pe_call GIsIntegerFrom (hr.mono (by decide)) (by rfl) T.gIsIntegerFrom T.FIsIntegerFrom.kp (bIsIntegerFrom T) .nil pass0 (pa_cons (pv 1) (pa_cons pe_int pa_nil))))) (pw_or1 (pt_cmpR op_gt (pv 1) pe_int (nomark _)))))
    (pss_one ps_never)
    pss_nil)
    (pss_cons (ps_if (pt_not (pt_val (pe_call GIsIntegerFrom (hr.mono (by decide)) (by rfl) T.gIsIntegerFrom T.FIsIntegerFrom.kp (bIsIntegerFrom T) .nil pass0 (pa_cons (pv 2) (pa_cons pe_int pa_nil)))))
    (pss_one ps_never)
    pss_nil)
    (pss_cons (ps_if (PW.pt (pw_or (pt_not (pt_val (pe_call GIsSequence (hr.mono (by decide)) (by rfl) T.gIsSequence T.FIsSequence.kp (bIsSequence T) .nil pass0 (pa_cons (pv 3) pa_nil)))) (pw_or1 (pt_not (pt_val (pe_callB (cr_all rfl) (by rfl) T.m_all (by decide +kernel) (pa_cons (pe_lc (own := [("day", 5)]) rfl scRuleInit.nd (pi_either (pi_list (pv 3)) (pi_tup (pv 3))) (blkOk_by (own := [("day", 5)]) (N := NRuleInit) (sc := defScope sRuleInit) (by decide +kernel)) (fun _ _ _ _ _ => by exact pg_name (i := 5) scRuleInit.nd rfl (.inl rfl)) (fun _ _ _ _ _ => pts_nil) (fun _ _ _ _ _ => (pe_call GIsNumber (hr.mono (by decide)) (by rfl) T.gIsNumber T.FIsNumber.kp (bIsNumber T) .nil pass0 (pa_cons (pv 5) pa_nil)))) pa_nil)))))))
    (pss_one ps_never)
    pss_nil)
    (pss_cons (ps_if (pt_cmpR op_notIn_seq (pv 4) (pe_glob (v := .ref T.aORDERS) (by rfl) T.gORDERS rfl) (by rfl))
    (pss_one ps_never)
    pss_nil)
    (pss_cons (ps_fld (pv 0) (pv 1) rfl)
    (pss_cons (ps_fld (pv 0) (pv 2) rfl)
    (pss_cons (ps_fld (pv 0) (pe_callTy call_tuple_of (by rfl) T.m_tuple (by decide +kernel) (pa_cons (pe_callB (cr_sortedSet (by rfl)) (by rfl) T.m_sorted (by decide +kernel) (pa_cons (pe_callTy (call_setI (by rfl)) (by rfl) T.m_set (by decide +kernel) (pa_cons (pv 3) pa_nil)) pa_nil)) pa_nil)) rfl)
    (pss_one (ps_fld (pv 0) (pv 4) rfl))))))))), ?_⟩
    refine ⟨_, rfl, .int g, 1, rfl, kd_int g, _, rfl, ite2 (fun z => absurd z (by simp [whole, g1])) (fun _ => ?_)⟩
    refine ⟨_, rfl, _, _, rfl, rfl, _, rfl, ite2 (fun z => absurd (of_decide_eq_true z) (by omega)) (fun _ => ?_)⟩
    refine ⟨_, rfl, .int wi, 1, rfl, kd_int wi, _, rfl, ite2 (fun z => absurd z (by simp [whole, w1])) (fun _ => ?_)⟩
    obtain ⟨t, ty, kt⟩ := ty_seq hs
    refine ⟨_, rfl, .ref l, t, true, rfl, ty, kt, fun H1 s1 => ⟨_, rfl, ite2 (fun z => nomatch z) fun _ => ?_⟩⟩
    refine it_seq (seq_same s1 hs) (fun _ q => ⟨_, rfl, q⟩) fun J G w1 hG D' hD' => lcA (as := ns) (List.length_map (f := V.int) (as := ns) ▸ w1) (fun n => .bool (decide (0 ≤ n))) (fun _ => true) hG (by omega) hD' (fun _ => rfl) (fun Nx i n x H2 H3 hn s y next _ => ?_) fun H2 ys s2 e h => ?_
    · obtain ⟨rfl, hx⟩ := y
      rw [List.getElem?_map, hn] at hx
      cases hx
      exact ⟨rfl, yes_if ⟨_, rfl, .int n, rfl, kd_int n, next _ _ rfl (Same.refl _) (.bl _)⟩⟩
    have e2 : H2 D' = some (.lst ((ns.map fun n => decide (0 ≤ n)).map V.bl)) := by
      rw [List.filter_eq_self.mpr (fun _ _ => rfl)] at h
      rw [e, show ys = _ from bools_of (M := N0) (H := H2) (bs := ns.map fun n => decide (0 ≤ n)) (by rw [List.map_map]; exact h)]
    have s12 := s1.trans s2
    have al : (ns.map fun n => decide (0 ≤ n)).all id = true := by
      rw [List.all_map, List.all_eq_true]
      exact fun n hn => decide_eq_true (n0 n hn)
    refine ⟨D', _, rfl, SqL.of e2, _, rfl, ite2 (fun z => absurd z (by rw [al]; decide)) (fun _ => ?_)⟩
    refine ⟨_, rfl, T.aORDERS, _, rfl, .inr (T.qORDERS _), rfl, rfl, _, rfl, ite2 (fun z => absurd z (by cases f <;> decide)) (fun _ => ?_)⟩
    have ha2 := s12 _ _ ha
    have hs2 := seq_same s12 hs
    have hs3 := seq_ins (o := .ins T.CRule dx [("gap", .int g)]) hs2 ha2
    have hs4 := seq_ins (o := .ins T.CRule dx [("gap", .int g), ("window", .int wi)]) hs3 upd_same
    refine ⟨_, rfl, _, rfl, a, T.CRule, dx, [], rfl, ha2, T.clRule, T.nRule_gap, Nat.le_of_ble_eq_true rfl, ?_⟩
    refine ⟨_, rfl, _, rfl, a, T.CRule, dx, [("gap", .int g)], rfl, upd_same, T.clRule, T.nRule_window, Nat.le_of_ble_eq_true rfl, ?_⟩
    refine ⟨_, rfl, l, ns, rfl, hs4, by omega, fun S n hS hn => ⟨S, _, n, rfl, upd_same, by omega, fun ls p pw mem _ hp => ⟨p, _, rfl, .inl ⟨SqL.of upd_same, fun r hr => ?_⟩⟩⟩⟩
    have s3 := ((same_new (o := SetO w S (fun j => decide (j ∈ ns)) n) hS).trans (same_new (o := .lst (ls.map V.int)) hp)).trans (same_new (o := .tup (ls.map V.int)) hr)
    have e3 := s3 a _ upd_same
    refine ⟨_, rfl, a, T.CRule, dx, [("gap", .int g), ("window", .int wi)], rfl, e3, T.clRule, T.nRule_let, Nat.le_of_ble_eq_true rfl, ?_⟩
    refine ⟨_, rfl, _, rfl, a, T.CRule, dx, [("gap", .int g), ("window", .int wi), ("let", .ref r)], rfl, upd_same, T.clRule, T.nRule_order, Nat.le_of_ble_eq_true rfl, ?_⟩
    have mem' : ∀ k, k ∈ ls ↔ k ∈ ns := fun k => (mem k).trans decide_eq_true_iff
    exact q _ ls (kp_upd (kp_upd ((kp_upd (kp_upd (Kp.of s12))).tr (Kp.of s3)))) pw mem' ⟨dx, r, upd_same, sqt_ins (sqt_ins (SqT.of upd_same) e3) upd_same⟩
end

section
variable {P : Program} {w : World} {K : PySem.W.Frag} {mg : Str → Option Value} {base : Heap}
theorem ok_rain (T : Txt K mg) : FnOk P w K mg base CX0 2 T.fAsRain T.fdAsRain ["value"] (spRain K) := by
  have GIsSequence := ok_isseq (P := P) (w := w) (base := base) T
  refine T.FAsRain.ok scAsRain (fun vs H Q E h => ?_) (fun cdv A outer s H vs Q E hr h => ?_)
  · obtain ⟨l, bs, rfl, _⟩ := h
    rfl
  · obtain ⟨l, bs, rfl, hs, hl, q⟩ := h
    refine ⟨_, (pss_cons (ps_if (pt_not (pt_val (pe_call GIsSequence (hr.mono (by decide)) (by rfl) T.gIsSequence T.FIsSequence.kp (bIsSequence T) .nil pass0 (pa_cons (pv 0) pa_nil))))
    (pss_one ps_never)
    pss_nil)
    (pss_cons (ps_for PassesOwn.never rfl (pi_either (pi_enum (by rfl) T.m_enumerate (pa_cons (pv 0) pa_nil)) (pi_enumT (by rfl) T.m_enumerate (pa_cons (pv 0) pa_nil))) (pg_tup rfl (pgs_cons (pg_name (i := 1) scAsRain.nd rfl (.inl rfl)) (pgs_cons (pg_name (i := 2) scAsRain.nd rfl (.inl rfl)) pgs_nil)))
    (pss_one (ps_if (pt_not (pt_val (pe_callB call_isi (by rfl) T.m_isinstance (by decide +kernel) (pa_cons (pv 2) (pa_cons (pe_bltn (v := .ty "bool") (by rfl) T.m_bool (by decide +kernel) rfl) pa_nil)))))
    (pss_one ps_never)
    pss_nil)))
    (pss_one (ps_ret (pe_callTy call_tuple_of (by rfl) T.m_tuple (by decide +kernel) (pa_cons (pv 0) pa_nil)))))), ?_⟩
    obtain ⟨t, ty, kt⟩ := ty_seq hs
    refine ⟨_, rfl, .ref l, t, true, rfl, ty, kt, fun H1 s1 => ⟨_, rfl, ite2 (fun z => nomatch z) fun _ => ?_⟩⟩
    refine it_enum (seq_same s1 hs) (fun _ q => ⟨_, rfl, q⟩) fun J G wk hG => for_it wk (fun i σ H' => Same H1 H' ∧ ∃ o1 o2, σ = [some (.ref l), o1, o2]) ⟨Same.refl _, none, none, rfl⟩ (fun i σ H' _ p => hG H' p.1) (fun i x σ H2 H3 hi p y => ?_) (fun σ H2 p => ?_)
    · obtain ⟨s2, o1, o2, rfl⟩ := p
      obtain ⟨r, z1, z2, rfl, hr, rfl, e1, e2⟩ := y
      cases e1
      have e2 : (bs.map V.bl)[i]? = some z2 := e2
      rw [List.getElem?_map] at e2
      cases hb : bs[i]? with
      | none => rw [hb] at e2; cases e2
      | some b =>
        rw [hb] at e2
        cases e2
        refine ⟨r, _, rfl, SqT.of upd_same, rfl, _, _, rfl, _, _, rfl, rfl, ?_⟩
        exact ⟨_, rfl, .bl b, _, .type "bool", _, true, rfl, .ty _, .base (.bl b), kit_ty (by decide +kernel), _, rfl, ite2 (fun z => nomatch z) fun _ => ⟨s2.trans (same_new hr), _, _, rfl⟩⟩
    · obtain ⟨s2, o1, o2, rfl⟩ := p
      refine ⟨_, rfl, l, bs.map V.bl, rfl, ?_⟩
      rcases seq_same (s1.trans s2) hs with h | h
      · exact .inl ⟨h, fun r hr => q r _ ((s1.trans s2).trans (same_new hr)) (SqT.of upd_same)⟩
      · exact .inr ⟨h, q l _ (s1.trans s2) h⟩
theorem ok_playedI (T : Txt K mg) : FnOk P w K mg base CX0 1 T.fPlayedInit T.fdPlayedInit ["self", "played", "lost", "waiting"] (spPlayedI T.CPlayed) := by
  refine T.FPlayedInit.ok scPlayedInit (fun vs H Q E h => ?_) (fun cdv A outer s H vs Q E hr h => ?_)
  · obtain ⟨a, dx, x, y, z, rfl, _⟩ := h
    rfl
  · obtain ⟨a, dx, x, y, z, rfl, ha, q⟩ := h
    refine ⟨_, (pss_cons (ps_fld (pv 0) (pv 1) rfl)
    (pss_cons (ps_fld (pv 0) (pv 2) rfl)
    (pss_one (ps_fld (pv 0) (pv 3) rfl)))), ?_⟩
    refine ⟨_, rfl, _, rfl, a, T.CPlayed, dx, [], rfl, ha, T.clPlayed, T.nPlayed_played, Nat.le_of_ble_eq_true rfl, ?_⟩
    refine ⟨_, rfl, _, rfl, a, T.CPlayed, dx, [("played", x)], rfl, upd_same, T.clPlayed, T.nPlayed_lost, Nat.le_of_ble_eq_true rfl, ?_⟩
    refine ⟨_, rfl, _, rfl, a, T.CPlayed, dx, [("played", x), ("lost", y)], rfl, upd_same, T.clPlayed, T.nPlayed_waiting, Nat.le_of_ble_eq_true rfl, ?_⟩
    exact q _ (kp_upd (kp_upd (kp_upd Kp.rf))) upd_same
end

section
variable {P : Program} {w : World} {K : PySem.W.Frag} {mg : Str → Option Value} {base : Heap}
theorem ok_bar (T : Txt K mg) : FnOk P w K mg base CX0 1 T.fIsBarred T.fdIsBarred ["week", "match", "others"] (spBar K T.CWeek) := by
  refine T.FIsBarred.ok scIsBarred (fun vs H Q E h => ?_) (fun cdv A outer s H vs Q E hr h => ?_)
  · obtain ⟨a, l, D, ms, m, os, rfl, _⟩ := h
    rfl
  · obtain ⟨a, l, D, ms, m, os, rfl, ⟨dx, t, xs, ha, ht, dm⟩, m0, m1, hs, ho, hl, q⟩ := h
    have lx : xs.length = ms.length := by simpa using dm.len
    refine ⟨_, (pss_cons (ps_asg (pe_ix ix_tup (pe_fld (pv 0) rfl) (pv 1) (fun _ _ => rfl)) (pg_star rfl (pg_name (i := 3) scIsBarred.nd rfl (.inl rfl)) (pg_name (i := 4) scIsBarred.nd rfl (.inr rfl))))
    (pss_one (ps_ret (pe_callB (cr_any rfl) (by rfl) T.m_any (by decide +kernel) (pa_cons (pe_lc2 (own := [("other", 5), ("side", 6)]) (wi1 := iTup K (tSl (rSlT K) (tOp (rIxT K) (tFld K (tVar 0) "matches") (tVar 5)) (tPart (tC (.int 1))) tNoPart)) rfl scIsBarred.nd (vs1 := [6]) (pi_list (pv 2)) (blkOk_by (own := [("other", 5), ("side", 6)]) (N := NIsBarred) (sc := defScope sIsBarred) (by decide +kernel)) (by decide) (fun _ _ _ _ _ => by exact pg_name (i := 5) scIsBarred.nd rfl (.inl rfl)) (fun _ _ _ _ _ => pts_nil) (fun _ _ _ _ _ => by exact (pi_tup (pe_slice (sl_tupK (K := K) rfl) (pe_ix (ix_tupK (K := K) rfl) (pe_fld (pv 0) rfl) (pv 5) (fun _ _ => rfl)) (po_some pe_int) po_none))) (fun _ _ _ _ _ => by exact pg_name (i := 6) scIsBarred.nd rfl (.inl rfl)) (fun _ _ _ _ _ => pts_nil) (fun _ _ _ _ _ => (pe_cmpR (in_seqK (K := K) rfl) (pv 6) (pv 4) (by rfl)))) pa_nil))))), ?_⟩
    obtain ⟨n, mm, b, rfl, en, hv, hb, es⟩ := match_at dm m0 m1
    refine ⟨_, rfl, a, T.CWeek, dx, _, .ref t, rfl, ha, T.clWeek, T.nWeek_matches, rfl, _, rfl, t, xs, (n : Int), .ref b, rfl, rfl, ht, atI_nat hv, ?_⟩
    refine ⟨b, .int mm.1, [.str mm.2.1, .str mm.2.2], rfl, SqT.of hb, fun p hp => ?_⟩
    have s1 : Same H (upd H p (.lst [.str mm.2.1, .str mm.2.2])) := same_new hp
    refine ⟨_, rfl, l, rfl, ⟨_, s1.seq hs⟩, fun L hL => lcO (as := os) ((List.length_map (f := V.int) (as := os)) ▸ walk_list (xs := os.map V.int)) (fun o => (sidesOf ms o).map fun x => .bool (decide (x ∈ sidesOf ms n))) (fun H' s => s.seq (s1.seq hs)) hL (fun Nx i o x H2 H3 hm s2 hh y next => ?_) fun H2 ys s2 e h => ?_⟩
    · obtain ⟨rfl, hx⟩ := y
      rw [List.getElem?_map, hm] at hx
      cases hx
      obtain ⟨o0, o1⟩ := ho o (List.mem_of_getElem? hm)
      have s12 := s1.trans s2
      obtain ⟨k, mo, c, rfl, ek, hvo, hc, eo⟩ := match_at (dm.same s12) o0 o1
      refine ⟨rfl, yes_if ⟨_, rfl, a, T.CWeek, dx, _, .ref t, rfl, s12 _ _ ha, T.clWeek, T.nWeek_matches, rfl, _, rfl, t, xs, (k : Int), .ref c, rfl, rfl, sqt_same s12 ht, atI_nat hvo, 1, rfl, c, _, rfl, SqT.of hc, (fun z => nomatch (show (1 : Nat) = 0 from z.1)), fun r hr => ⟨r, rfl, ⟨_, SqT.of upd_same⟩, ?_⟩⟩⟩
      have nrL : r ≠ L := fun z => by
        obtain ⟨_, z2, _⟩ := hh
        rw [← z, hr] at z2
        cases z2
      rw [eo] at next
      refine inA (bs := [mo.2.1, mo.2.2]) (H0 := upd H p (.lst [.str mm.2.1, .str mm.2.2])) (walk_tup (K := K) (a := r) (xs := [.str mo.2.1, .str mo.2.2])) (fun x => .bool (decide (x ∈ sidesOf ms n))) (fun _ => true) _ (fun H' k => SqT.of (k r _ nrL upd_same)) ?_ hL (fun x => rfl) (s2.trans (same_new hr)) (hh.same (same_new hr)) (fun N1 j x y H5 H6 hx s5 _ y5 next5 _ => ?_) fun H5 s5 h5 => next H5 s5 h5
      · have key : ∀ l : List Int, (l.flatMap fun o => (sidesOf ms o).map fun x => PyData.bool (decide (x ∈ sidesOf ms n))).length ≤ 2 * l.length := by
          intro l
          induction l with
          | nil => exact Nat.le_refl _
          | cons a l ih =>
            rw [List.flatMap_cons, List.length_append, List.length_map]
            have : (sidesOf ms a).length ≤ 2 := by
              unfold sidesOf
              split <;> simp
            simp only [List.length_cons]
            omega
        have := key (os.take i)
        have := List.length_take_le' i os
        simp only [List.length_cons, List.length_nil]
        omega
      · obtain ⟨rfl, hy⟩ := y5
        have ey : y = .str x := by
          rcases j with _ | _ | j <;> simp at hx hy <;> first | (rw [← hx, ← hy]) | skip
        rw [ey]
        have ep : H6 p = some (.lst ([mm.2.1, mm.2.2].map V.str)) := s5 _ _ upd_same
        refine ⟨rfl, yes_if ⟨_, rfl, _, rfl, p, _, rfl, .inl (SqL.of ep), rfl, rfl, ?_⟩⟩
        rw [show (if false = true then !inV (V.str x) ([mm.2.1, mm.2.2].map V.str) else inV (V.str x) ([mm.2.1, mm.2.2].map V.str)) = decide (x ∈ sidesOf ms n) by rw [es]; exact in_strs x _]
        exact next5 _ _ rfl (Same.refl _) (.bl _)
    · have eb : (os.flatMap fun o => (sidesOf ms o).map fun x => PyData.bool (decide (x ∈ sidesOf ms n))) = (os.flatMap fun o => (sidesOf ms o).map fun x => decide (x ∈ sidesOf ms n)).map PyData.bool := by
        rw [List.map_flatMap]
        congr 1
        funext o
        rw [List.map_map]
        rfl
      rw [eb] at h
      refine ⟨L, _, rfl, SqL.of (e.trans (congrArg (fun z => some (HO.lst z)) (bools_of (M := N0) (H := H2) h))), ?_⟩
      have z := q H2 (s1.trans s2)
      unfold barL at z
      rw [show ((os.flatMap fun o => (sidesOf ms o).map fun x => decide (x ∈ sidesOf ms n)).any id) = os.any fun o => (sidesOf ms o).any fun x => decide (x ∈ sidesOf ms n) by rw [List.any_flatMap]; congr 1; funext o; rw [List.any_map]; rfl]
      exact z
theorem ok_near (T : Txt K mg) : FnOk P w K mg base CX0 2 T.fMatchesNear T.fdMatchesNear ["week", "rule", "day", "to", "waiting"] (spNear K T.CWeek T.CRule) := by
  have GWeekOn := ok_on (P := P) (w := w) (base := base) T
  refine T.FMatchesNear.ok scMatchesNear (fun vs H Q E h => ?_) (fun cdv A outer s H vs Q E hr h => ?_)
  · obtain ⟨a, r, l, D, ms, g, wi, ls, f, day, to, xs, wt, rfl, _⟩ := h
    rfl
  · obtain ⟨a, r, l, D, ms, g, wi, ls, f, day, to, xs, wt, rfl, hw, hD, hD2, hms, hru, g1, g2, ⟨d1, d2⟩, ⟨t1, t2⟩, hs, dm, hwt, q⟩ := h
    refine ⟨_, (pss_cons (ps_set (i := 5) scMatchesNear.nd rfl (.inr rfl) (pe_callTy cr_range2 (by rfl) T.m_range (by decide +kernel) (pa_cons (pe_callB (call_max2 rfl) (by rfl) T.m_max (by decide +kernel) (pa_cons (pe_op op_add (pv 2) pe_int) (pa_cons (pe_op op_add (pe_op op_sub (pv 3) (pe_fld (pv 1) rfl)) pe_int) pa_nil))) (pa_cons (pe_op op_add (pv 3) (pe_fld (pv 1) rfl)) pa_nil))))
    (pss_cons (ps_setLc2 (i := 6) (own := [("later", 7), ("match", 8)]) (wi1 := iTup K (tMeth T.CWeek "on" (spOn K T.CWeek) [] E0 (tVar 0) (tCons (tVar 7) tNil))) rfl scMatchesNear.nd rfl rfl (sw_true rfl rfl rfl (by decide +kernel)) (vs1 := [8]) (pi_rngV (pv 5)) (blkOk_by (own := [("later", 7), ("match", 8)]) (N := NMatchesNear) (sc := defScope sMatchesNear) (by decide +kernel)) (by decide) (fun _ _ _ _ _ => by exact pg_name (i := 7) scMatchesNear.nd rfl (.inl rfl)) (fun _ _ _ _ _ => pts_nil) (fun _ _ _ _ _ => by exact (pi_tup (pe_meth (pv 0) T.clWeek T.mWeekOn GWeekOn (hr.mono (by decide)) (bWeekOn T) .nil pass0 (pa_cons (pv 7) pa_nil)))) (fun _ _ _ _ _ => by exact pg_name (i := 8) scMatchesNear.nd rfl (.inl rfl)) (fun _ _ _ _ _ => pts_nil) (fun _ _ _ _ _ => (pv 8)))
    (pss_one (ps_ret (pe_op op_cat (pv 6) (pe_lc (own := [("later", 7), ("_", 9), ("match", 8)]) (g := gTup K 3 (gCons (gName 7) (gCons (gName 9) (gCons (gName 8) gNil)))) rfl scMatchesNear.nd (pi_list (pv 4)) (blkOk_by (own := [("later", 7), ("_", 9), ("match", 8)]) (N := NMatchesNear) (sc := defScope sMatchesNear) (by decide +kernel)) (fun _ _ _ _ _ => by exact pg_tup rfl (pgs_cons (pg_name (i := 7) scMatchesNear.nd rfl (.inl rfl)) (pgs_cons (pg_name (i := 9) scMatchesNear.nd rfl (.inl rfl)) (pgs_cons (pg_name (i := 8) scMatchesNear.nd rfl (.inl rfl)) pgs_nil)))) (fun _ _ _ _ _ => (pts_one (pt_cmpR op_in_rng (pv 7) (pv 5) (by rfl)))) (fun _ _ _ _ _ => (pv 8)))))))), ?_⟩
    obtain ⟨dr, lt, hr1, hr2⟩ := hru
    have hwo := hw
    obtain ⟨dx, t, ys, ha, ht, dw⟩ := hwo
    have em : (if to - g + 1 > day + 1 then to - g + 1 else day + 1) = max (day + 1) (to - g + 1) := by omega
    refine ⟨_, rfl, _, _, rfl, rfl, _, rfl, _, rfl, r, T.CRule, dr, _, .int g, rfl, hr1, T.clRule, T.nRule_gap, rfl, _, _, rfl, rfl, _, _, rfl, rfl, _, _, rfl, ?_⟩
    rw [em]
    refine ⟨_, rfl, _, rfl, r, T.CRule, dr, _, .int g, rfl, hr1, T.clRule, T.nRule_gap, rfl, _, _, rfl, rfl, _, _, rfl, fun p hp => ?_⟩
    have s1 : Same H (upd H p (.rng (max (day + 1) (to - g + 1)) (to + g))) := same_new hp
    generalize hlo : max (day + 1) (to - g + 1) = lo at s1 ⊢
    have len : ((to + g) - lo).toNat ≤ 3 := by omega
    refine ⟨_, rfl, p, lo, to + g, rfl, upd_same, ⟨by omega, by omega, by omega, by omega⟩, fun L hL => lcO (as := irange lo (to + g)) (walk_ir lo (to + g)) (fun n => (onL D ms n).map PyData.int) (fun _ _ => trivial) hL (fun Nx i n x H2 H3 hn s2 hh y next => ?_) fun H2 ys2 s2 e h => ?_⟩
    · obtain ⟨rfl, rfl⟩ := y
      obtain ⟨rfl, hi⟩ := irange_at hn
      have s12 := s1.trans s2
      refine ⟨rfl, yes_if ⟨_, rfl, a, dx, _, rfl, s12 _ _ ha, rfl, _, rfl, a, D, ms, lo + i, rfl, hw.same s12, hD, hD2, hms, fun t4 H4 s4 e4 => ⟨t4, rfl, ⟨_, SqT.of e4⟩, ?_⟩⟩⟩
      have ntL : t4 ≠ L := fun z => by
        obtain ⟨_, z2, _⟩ := hh.same s4
        rw [← z, e4] at z2
        cases z2
      refine inA (bs := onL D ms (lo + i)) (H0 := upd H p (.rng lo (to + g))) ((List.length_map (f := V.int) (as := onL D ms (lo + i))) ▸ walk_tup (K := K) (a := t4) (xs := (onL D ms (lo + i)).map V.int)) PyData.int (fun _ => true) _ (fun H' k => SqT.of (k t4 _ ntL e4)) ?_ hL (fun x => rfl) (s2.trans s4) (hh.same s4) (fun N1 j x y H5 H6 hx s5 _ y5 next5 _ => ?_) fun H5 s5 h5 => next H5 s5 ?_
      · have := flat_le (f := fun n => (onL D ms n).map PyData.int) (k := 30) (fun n => by rw [List.length_map]; exact Nat.le_trans (onL_len D ms n) hms) ((irange lo (to + g)).take i)
        have := List.length_take_le i (irange lo (to + g))
        have := onL_len D ms (lo + i)
        omega
      · obtain ⟨rfl, hy⟩ := y5
        rw [List.getElem?_map, hx] at hy
        cases hy
        exact ⟨rfl, yes_if ⟨_, rfl, next5 _ _ rfl (Same.refl _) (.int _)⟩⟩
      · rw [List.filter_eq_self.mpr (fun _ _ => rfl)] at h5
        exact h5
    · have s12 := s1.trans s2
      have ey : ys2 = ((irange lo (to + g)).flatMap (onL D ms)).map V.int := ints_of (M := N0) (H := H2) (by rw [List.map_flatMap]; exact h)
      subst ey
      refine ⟨_, rfl, _, rfl, l, rfl, ⟨_, s12.seq hs⟩, fun L2 hL2 => lcA (as := wt) ((show xs.length = wt.length by simpa using dm.len) ▸ walk_list (K := K) (a := l) (xs := xs)) (fun t => .int t.2.2) (fun t => decide (lo ≤ t.1 ∧ t.1 < to + g)) (fun H' s => s.seq (s12.seq hs)) (by omega) hL2 (fun _ => rfl) (fun Nx i u x H3 H4 hu s3 y next skip => ?_) fun H3 zs s3 e3 h3 => ?_⟩
      · obtain ⟨rfl, hx⟩ := y
        obtain ⟨d, hd, du⟩ := dm.of_at hx
        rw [List.getElem?_map, hu] at hd
        cases hd
        obtain ⟨b, rfl, hb⟩ := tD_inv (du.same (s12.trans s3))
        refine ⟨b, _, rfl, SqT.of hb, rfl, _, _, rfl, _, _, rfl, _, _, rfl, rfl, rfl, _, rfl, _, rfl, u.1, p, lo, to + g, rfl, rfl, s3 _ _ (s2 _ _ upd_same), _, rfl, yn (fun c => ⟨_, rfl, next _ _ c (Same.refl _) (.int _)⟩) fun c => skip _ c (Same.refl _)⟩
      · have ez : zs = ((wt.filter fun t => decide (lo ≤ t.1 ∧ t.1 < to + g)).map fun t => t.2.2).map V.int := ints_of (M := N0) (H := H3) (by rw [List.map_map]; exact h3)
        subst ez
        refine ⟨L, L2, _, _, rfl, rfl, s3 _ _ e, e3, ?_, fun r hr => q r _ ?_ ((s12.trans s3).trans (same_new hr)) ?_⟩
        · have z1 := flat_le (f := onL D ms) (k := 30) (fun n => Nat.le_trans (onL_len D ms n) hms) (irange lo (to + g))
          have z2 := irange_len lo (to + g)
          have z3 := List.length_filter_le (fun t => decide (lo ≤ t.1 ∧ t.1 < to + g)) wt
          rw [List.length_map, List.length_map, List.length_map, sizeLine_eq]
          omega
        · exact (s12.trans s3).free hr
        · rw [upd_same, ← List.map_append]
          unfold nearL
          rw [hlo]
end

section
variable {P : Program} {w : World} {K : PySem.W.Frag} {mg : Str → Option Value} {base : Heap}
theorem ok_new (T : Txt K mg) : FnOk P w K mg base CX0 3 T.fNewDay T.fdNewDay ["week", "rule", "day", "due", "waiting"] (spNew K T.CWeek T.CRule) := by
  have GIsBarred := ok_bar (P := P) (w := w) (base := base) T
  have GMatchesNear := ok_near (P := P) (w := w) (base := base) T
  refine T.FNewDay.ok scNewDay (fun vs H Q E h => ?_) (fun cdv A outer s H vs Q E hr h => ?_)
  · obtain ⟨a, r, l, W, day, own, m, v, xs, wt, rfl, _⟩ := h
    rfl
  · obtain ⟨a, r, l, W, day, own, m, v, xs, wt, rfl, gd, wo, dv, mb, ⟨d1, d2⟩, ⟨o1, o2⟩, hs, dm, hwt, gw, q⟩ := h
    obtain ⟨b, rfl, hb⟩ := pD_inv dv
    have wo2 := wo
    obtain ⟨⟨dx, t, ys, ha, ht, dw⟩, dr, lt, hr1, hr2⟩ := wo2
    have gd2 := gd
    obtain ⟨D1, D2, ml, G1, G2, W1, W2⟩ := gd2
    refine ⟨_, (pss_cons (ps_asg (pv 3) (pg_tup rfl (pgs_cons (pg_name (i := 5) scNewDay.nd rfl (.inl rfl)) (pgs_cons (pg_name (i := 6) scNewDay.nd rfl (.inl rfl)) pgs_nil))))
    (pss_cons (ps_for PassesOwn.never rfl (pi_range2 (by rfl) T.m_range (pa_cons (pe_op op_add (pv 2) pe_int) (pa_cons (pe_op op_add (pe_op op_add (pv 5) (pe_fld (pv 1) rfl)) pe_int) pa_nil))) (pg_name (i := 7) scNewDay.nd rfl (.inl rfl))
    (pss_one (ps_if (PW.pt (pw_and (pt_cmpR op_in_seq (pe_op op_modN (pv 7) (pe_fld (pv 0) rfl)) (pe_fld (pv 1) rfl) (by rfl)) (pw_and1 (pt_not (pt_val (pe_call GIsBarred (hr.mono (by decide)) (by rfl) T.gIsBarred T.FIsBarred.kp (bIsBarred T) .nil pass0 (pa_cons (pv 0) (pa_cons (pv 6) (pa_cons (pe_call GMatchesNear (hr.mono (by decide)) (by rfl) T.gMatchesNear T.FMatchesNear.kp (bMatchesNear T) .nil pass0 (pa_cons (pv 0) (pa_cons (pv 1) (pa_cons (pv 2) (pa_cons (pv 7) (pa_cons (pv 4) pa_nil)))))) pa_nil)))))))))
    (pss_one (ps_ret (pv 7)))
    pss_nil)))
    (pss_one (ps_ret pe_non)))), ?_⟩
    refine ⟨_, rfl, b, _, rfl, SqT.of hb, rfl, _, _, rfl, _, _, rfl, rfl, ?_⟩
    refine ⟨_, rfl, _, _, rfl, rfl, _, rfl, _, rfl, r, T.CRule, dr, _, .int W.wi, rfl, hr1, T.clRule, T.nRule_window, rfl, _, _, rfl, rfl, _, _, rfl, rfl, _, _, rfl, ⟨by omega, by omega, by omega, by omega⟩, ?_⟩
    refine for_it (walk_ir (day + 1) (own + W.wi + 1)) (fun i σ H' => Same H H' ∧ ((irange (day + 1) (own + W.wi + 1)).take i).find? (fun to => decide (to.fmod W.D ∈ W.ls) && !barL W.ms m (nearL W.D W.ms W.g day to wt)) = none ∧ ∃ o, σ = [some (.ref a), some (.ref r), some (.int day), some (.ref b), some (.ref l), some (.int own), some (.int m), o])
      ⟨Same.refl _, rfl, none, rfl⟩ (fun _ _ _ _ _ => trivial) (fun i x σ H2 H3 hi p y => ?_) (fun σ H2 p => ?_)
    · obtain ⟨s2, fd, o, rfl⟩ := p
      obtain ⟨rfl, rfl⟩ := y
      have wo2 := wo.same s2
      rw [irange_len] at hi
      have e1 : (irange (day + 1) (own + W.wi + 1)).take (i + 1) = (irange (day + 1) (own + W.wi + 1)).take i ++ [day + 1 + i] := by
        have : (irange (day + 1) (own + W.wi + 1))[i]? = some (day + 1 + i) := by
          unfold irange
          rw [List.getElem?_map, List.getElem?_range hi]
          rfl
        rw [List.take_add_one, this]
        rfl
      have nx : ∀ H', Same H H' → (decide ((day + 1 + i).fmod W.D ∈ W.ls) && !barL W.ms m (nearL W.D W.ms W.g day (day + 1 + i) wt)) = false → Same H H' ∧ ((irange (day + 1) (own + W.wi + 1)).take (i + 1)).find? (fun to => decide (to.fmod W.D ∈ W.ls) && !barL W.ms m (nearL W.D W.ms W.g day to wt)) = none := fun H' s e => by
        refine ⟨s, ?_⟩
        rw [e1, List.find?_append, fd]
        simp [e]
      refine ⟨_, rfl, _, rfl, a, T.CWeek, dx, _, .int W.D, rfl, s2 _ _ ha, T.clWeek, T.nWeek_days, rfl, _, _, rfl, rfl, by omega, _, rfl, r, T.CRule, dr, _, .ref lt, rfl, s2 _ _ hr1, T.clRule, T.nRule_let, rfl, lt, _, rfl, .inr (sqt_same s2 hr2), rfl, flats _, _, rfl, ?_⟩
      rw [show (if false = true then !inV (V.int ((day + 1 + i).fmod W.D)) (W.ls.map V.int) else inV (V.int ((day + 1 + i).fmod W.D)) (W.ls.map V.int)) = decide ((day + 1 + i).fmod W.D ∈ W.ls) from in_ints _ _]
      refine yn (fun c => ?_) (fun c => ?_)
      · have nl := near_len gd day (day + 1 + i) wt
        refine ⟨_, rfl, _, rfl, _, rfl, _, rfl, _, rfl, _, rfl, _, rfl, a, r, l, W.D, W.ms, W.g, W.wi, W.ls, W.f, day, day + 1 + i, xs, wt, rfl, wo2.1, D1, D2, ml, wo2.2, G1, G2, ⟨by omega, by omega⟩, ⟨by omega, by omega⟩, s2.seq hs, dm.same s2, hwt, fun p H4 hp s4 e4 => ?_⟩
        refine ⟨a, p, W.D, W.ms, m, nearL W.D W.ms W.g day (day + 1 + i) wt, rfl, (wo2.same s4).1, mb.1, mb.2, SqL.of e4, near_in gw, by omega, fun H5 s5 => ⟨_, rfl, yn (fun c2 => ⟨_, rfl, ?_⟩) fun c2 => ?_⟩⟩
        · have z := q H5 ((s2.trans s4).trans s5)
          have e2 : newDay W day own m wt = some (day + 1 + i) := by
            unfold newDay
            have e3 : irange (day + 1) (own + W.wi + 1) = (irange (day + 1) (own + W.wi + 1)).take (i + 1) ++ (irange (day + 1) (own + W.wi + 1)).drop (i + 1) := (List.take_append_drop ..).symm
            rw [e3, e1, List.find?_append, List.find?_append, fd]
            simp [c, c2]
          rw [e2] at z
          exact z
        · have z := nx H5 ((s2.trans s4).trans s5) (by
            rw [c]
            simpa using c2)
          exact ⟨z.1, z.2, _, rfl⟩
      · have z := nx H3 s2 (by rw [c]; rfl)
        exact ite2 (fun z => nomatch z) fun _ => ⟨z.1, z.2, _, rfl⟩
    · obtain ⟨s2, fd, o, rfl⟩ := p
      rw [List.take_length] at fd
      have z := q H2 s2
      unfold newDay at z
      rw [fd] at z
      exact z
end

section
variable {P : Program} {w : World} {K : PySem.W.Frag} {mg : Str → Option Value} {base : Heap}
theorem ok_off (T : Txt K mg) : FnOk P w K mg base CX0 4 T.fPutOff T.fdPutOff ["week", "rule", "day", "due", "waiting"] (spOff K T.CWeek T.CRule) := by
  have GNewDay := ok_new (P := P) (w := w) (base := base) T
  refine T.FPutOff.ok scPutOff (fun vs H Q E h => ?_) (fun cdv A outer s H vs Q E hr h => ?_)
  · obtain ⟨a, r, dl, l, W, day, us, xs, due, wt, rfl, _⟩ := h
    rfl
  · obtain ⟨a, r, dl, l, W, day, us, xs, due, wt, rfl, gd, wo, sd, hdu, ddu, okd, dul, hs, dm, hwt, gw, q⟩ := h
    have hu64 := hr.units
    refine ⟨_, (pss_cons (ps_set (i := 5) scPutOff.nd rfl (.inl rfl) (pe_ifExp (pt_cmpR op_eq (pe_fld (pv 1) rfl) pe_str (nomark _)) (pv 3) (pe_rev (pv 3) (pe_un un_neg pe_int))))
    (pss_cons (ps_par (i := 6) (j := 7) rfl scPutOff.nd rfl rfl (by decide) rfl rfl (pa_cons (pe_lst pa_nil) (pa_cons (pe_callTy call_list_of (by rfl) T.m_list (by decide +kernel) (pa_cons (pv 4) pa_nil)) pa_nil)) (by rfl))
    (pss_cons (ps_for PassesOwn.never rfl (pi_list (pv 5)) (pg_tup rfl (pgs_cons (pg_name (i := 8) scPutOff.nd rfl (.inl rfl)) (pgs_cons (pg_name (i := 9) scPutOff.nd rfl (.inl rfl)) pgs_nil)))
    (pss_cons (ps_set (i := 10) scPutOff.nd rfl (.inl rfl) (pe_call GNewDay (hr.mono (by decide)) (by rfl) T.gNewDay T.FNewDay.kp (bNewDay T) .nil pass0 (pa_cons (pv 0) (pa_cons (pv 1) (pa_cons (pv 2) (pa_cons (pe_tup (pa_cons (pv 8) (pa_cons (pv 9) pa_nil))) (pa_cons (pv 7) pa_nil)))))))
    (pss_one (ps_if (pt_cmpR op_isN (pv 10) pe_non (nomark _))
    (pss_one (ps_expr (pe_bm PySem.F.plainAttrs_list PySem.F.slot_list_append PySem.F.type_list_append mt_append (pv 6) (pa_cons (pe_tup (pa_cons (pv 2) (pa_cons (pv 8) (pa_cons (pv 9) pa_nil)))) pa_nil))))
    (pss_one (ps_expr (pe_bm PySem.F.plainAttrs_list PySem.F.slot_list_append PySem.F.type_list_append mt_append (pv 7) (pa_cons (pe_tup (pa_cons (pv 10) (pa_cons (pv 8) (pa_cons (pv 9) pa_nil)))) pa_nil))))))))
    (pss_one (ps_ret (pe_tup (pa_cons (pe_callTy call_tuple_of (by rfl) T.m_tuple (by decide +kernel) (pa_cons (pe_callB (cr_sortT3 hu64) (by rfl) T.m_sorted (by decide +kernel) (pa_cons (pv 6) pa_nil)) pa_nil)) (pa_cons (pe_callTy call_tuple_of (by rfl) T.m_tuple (by decide +kernel) (pa_cons (pe_callB (cr_sortT3 hu64) (by rfl) T.m_sorted (by decide +kernel) (pa_cons (pv 7) pa_nil)) pa_nil)) pa_nil)))))))), ?_⟩
    have wo2 := wo
    obtain ⟨_, dr, lt, hr1, hr2⟩ := wo2
    refine asg_turn rfl rfl hr1 T.clRule T.nRule_order hdu fun p H1 s1 hp => ?_
    have dp : DmAll N0 H1 (if W.f then us else us.reverse) ((if W.f then due else due.reverse).map pD) := by
      cases W.f with
      | true => exact ddu.same s1
      | false => exact dm_rev (ddu.same s1)
    have okt : ∀ p ∈ (if W.f then due else due.reverse), Sd p.1 ∧ 0 ≤ p.2 ∧ p.2 < W.ms.length := by
      cases W.f with
      | true => exact okd
      | false => exact fun p hp => okd p (List.mem_reverse.mp hp)
    have ltn : (if W.f then due else due.reverse).length ≤ 20000 := by
      cases W.f with
      | true => exact dul
      | false => rw [if_neg Bool.false_ne_true, List.length_reverse]; exact dul
    have lxs := dm.len
    rw [List.length_map] at lxs
    refine ⟨by walk_at "cd", fun L1 hL1 => ⟨_, rfl, l, xs, rfl, .inl ((s1.trans (same_new hL1)).seq hs), fun L2 hL2 => ?_⟩⟩
    have po : putOff W day due wt = (sortT ((if W.f then due else due.reverse).foldl (stepOff W day) ([], wt)).1, sortT ((if W.f then due else due.reverse).foldl (stepOff W day) ([], wt)).2) := rfl
    generalize (if W.f then due else due.reverse) = tn at dp okt ltn po
    generalize (if W.f then us else us.reverse) = zs at dp hp
    have lzs : zs.length = tn.length := by simpa using dp.len
    have n12 : L2 ≠ L1 := fun z => by
      rw [z, upd_same] at hL2
      cases hL2
    have hL2' : H1 L2 = none := by rwa [upd_ne n12] at hL2
    have s13 : Same H1 (upd (upd H1 L1 (.lst [])) L2 (.lst xs)) := (same_new hL1).trans (same_new hL2)
    refine ⟨_, _, rfl, _, rfl, p, rfl, ⟨_, s13.seq hp⟩, for_it (lzs ▸ walk_list (K := K) (a := p) (xs := zs)) (fun i σ H' => Same H1 H' ∧ Has H' L1 (((tn.take i).foldl (stepOff W day) ([], wt)).1.map tD) ∧ Has H' L2 (((tn.take i).foldl (stepOff W day) ([], wt)).2.map tD) ∧
      ∃ o8 o9 o10, σ = [some (.ref a), some (.ref r), some (.int day), some (.ref dl), some (.ref l), some (.ref p), some (.ref L1), some (.ref L2), o8, o9, o10]) ⟨s13, ?_, ?_, none, none, none, rfl⟩ (fun i σ H' _ q => q.1.seq hp) (fun i x σ H2 H3 hi pv y => ?_) (fun σ H2 pv => ?_)⟩
    · exact (Has.nil (H := H1)).same (same_new hL2)
    · exact ⟨xs, upd_same, DmAll.off (fun b z ws q => by rw [z, upd_same] at q; cases q) _ _ (tupos_tD wt) (dm.same (s1.trans s13))⟩
    · obtain ⟨s2, h1, h2, o8, o9, o10, rfl⟩ := pv
      obtain ⟨rfl, hx⟩ := y
      obtain ⟨e, he⟩ : ∃ e, tn[i]? = some e := ⟨_, List.getElem?_eq_getElem hi⟩
      have et : (tn.take (i + 1)).foldl (stepOff W day) ([], wt) = stepOff W day ((tn.take i).foldl (stepOff W day) ([], wt)) e := by
        rw [List.take_add_one, he]
        show ((tn.take i) ++ [e]).foldl _ _ = _
        rw [List.foldl_append]
        rfl
      have ln := off_len W day (tn.take i) ([], wt)
      have lt1 := List.length_take_le' i tn
      have gw2 := off_gw W day (tn.take i) ([], wt) (fun q hq => (okt q (List.mem_of_mem_take hq)).2) gw
      rw [et]
      generalize (tn.take i).foldl (stepOff W day) ([], wt) = st at h1 h2 ln gw2 ⊢
      obtain ⟨d, hd, de⟩ := dp.of_at hx
      rw [List.getElem?_map, he] at hd
      cases hd
      obtain ⟨b, rfl, hb⟩ := pD_inv (de.same s2)
      have oke := okt e (List.mem_of_getElem? he)
      obtain ⟨ys2, e2, d2, l2⟩ := h2.len
      rw [List.length_map] at l2
      refine ⟨b, _, rfl, SqT.of hb, rfl, _, _, rfl, _, _, rfl, rfl, ?_⟩
      refine ⟨_, rfl, _, rfl, _, rfl, _, rfl, _, rfl, (by walk_at "cd"), fun q hq => ⟨_, rfl, a, r, L2, W, day, e.1, e.2, .ref q, ys2, st.2, rfl, gd, wo.same ((s1.trans s2).trans (same_new hq)), pD_of upd_same, oke.2, sd, oke.1, (same_new hq).seq (SqL.of e2), d2.same (same_new hq), by simp at ln; omega, gw2, fun H5 s5 => ?_⟩⟩
      have s6 : Same H3 H5 := (same_new (o := .tup [.int e.1, .int e.2]) hq).trans s5
      have h1' := h1.same s6
      have h2' := h2.same s6
      refine ⟨_, rfl, rfl, _, rfl, ?_⟩
      unfold stepOff
      cases newDay W day e.1 e.2 st.2 with
      | none =>
        refine ite2 (fun _ => ?_) (fun z => absurd (decide_eq_true rfl) z)
        obtain ⟨ys1, e1, _, l1⟩ := h1'.len
        rw [List.length_map] at l1
        refine ⟨_, rfl, .inl ⟨rfl, _, SqL.of e1⟩, _, rfl, _, rfl, _, rfl, (by walk_at "cd"), fun z hz => ?_⟩
        have e1z : (upd H5 z (.tup [.int day, .int e.1, .int e.2])) L1 = some (.lst ys1) := same_new hz _ _ e1
        refine ⟨L1, ys1, .ref z, rfl, rfl, e1z, by rw [sizeLine_eq]; simp at ln; omega, Same.put hL1 ((s2.trans s6).trans (same_new hz)), ?_, Has.other (h2'.same (same_new hz)) (tupos_tD _) n12 e1z, _, _, _, rfl⟩
        rw [List.map_append]
        exact Has.push (h1'.same (same_new hz)) e1z (tD_of (t := (day, e.1, e.2)) upd_same) rfl
      | some to =>
        refine ite2 (fun z => absurd (of_decide_eq_true z) (fun z => nomatch z)) (fun _ => ?_)
        obtain ⟨ys3, e3, _, l3⟩ := h2'.len
        rw [List.length_map] at l3
        refine ⟨_, rfl, .inl ⟨rfl, _, SqL.of e3⟩, _, rfl, _, rfl, _, rfl, (by walk_at "cd"), fun z hz => ?_⟩
        have e3z : (upd H5 z (.tup [.int to, .int e.1, .int e.2])) L2 = some (.lst ys3) := same_new hz _ _ e3
        refine ⟨L2, ys3, .ref z, rfl, rfl, e3z, by rw [sizeLine_eq]; simp at ln; omega, Same.put hL2' ((s2.trans s6).trans (same_new hz)), Has.other (h1'.same (same_new hz)) (tupos_tD _) (Ne.symm n12) e3z, ?_, _, _, _, rfl⟩
        rw [List.map_append]
        exact Has.push (h2'.same (same_new hz)) e3z (tD_of (t := (to, e.1, e.2)) upd_same) rfl
    · obtain ⟨s2, h1, h2, o8, o9, o10, rfl⟩ := pv
      rw [List.take_length] at h1 h2
      obtain ⟨ys1, e1, d1, _⟩ := h1.len
      obtain ⟨ys2, e2, d2, _⟩ := h2.len
      refine ⟨_, rfl, L1, ys1, _, rfl, SqL.of e1, d1, fun z1 w1 hz1 dz1 => ⟨z1, w1, rfl, .inl ⟨SqL.of upd_same, fun t1 ht1 => ?_⟩⟩⟩
      have sA := (same_new (o := .lst w1) hz1).trans (same_new (o := .tup w1) ht1)
      refine ⟨_, rfl, L2, ys2, _, rfl, sA.seq (SqL.of e2), d2.same sA, fun z2 w2 hz2 dz2 => ⟨z2, w2, rfl, .inl ⟨SqL.of upd_same, fun t2 ht2 => ⟨by walk_at "cd", fun t3 ht3 => ?_⟩⟩⟩⟩
      have sB := ((same_new (o := .lst w2) hz2).trans (same_new (o := .tup w2) ht2)).trans (same_new (o := .tup [.ref t1, .ref t2]) ht3)
      refine q _ _ (((s1.trans s2).trans sA).trans sB) ?_
      rw [po]
      refine .tup id upd_same (.cons (.tup id (sB _ _ upd_same) (dz1.same ((same_new ht1).trans sB))) (.cons (.tup id (same_new ht3 _ _ upd_same) (dz2.same ((same_new ht2).trans (same_new ht3)))) .nil))
end

section
variable {P : Program} {w : World} {K : PySem.W.Frag} {mg : Str → Option Value} {base : Heap}
theorem ok_day (T : Txt K mg) : FnOk P w K mg base CX0 5 T.fPlayDay T.fdPlayDay ["week", "rule", "day", "waiting", "is_rainy"] (spDay K T.CWeek T.CRule) := by
  have GPutOff := ok_off (P := P) (w := w) (base := base) T
  have GWeekOn := ok_on (P := P) (w := w) (base := base) T
  refine T.FPlayDay.ok scPlayDay (fun vs H Q E h => ?_) (fun cdv A outer s H vs Q E hr h => ?_)
  · obtain ⟨a, r, l, W, day, xs, wt, rainy, rfl, _⟩ := h
    rfl
  · obtain ⟨a, r, l, W, day, xs, wt, rainy, rfl, gd, wo, sd, hs, dm, hwt, gw, so, q⟩ := h
    have hu64 := hr.units
    refine ⟨_, (pss_cons (ps_setLc (i := 5) (own := [("to", 6), ("own_day", 7), ("match", 8)]) (g := gTup K 3 (gCons (gName 6) (gCons (gName 7) (gCons (gName 8) gNil)))) rfl scPlayDay.nd rfl rfl (sw_true rfl rfl rfl (by decide +kernel)) (pi_either (pi_list (pv 3)) (pi_tup (pv 3))) (blkOk_by (own := [("to", 6), ("own_day", 7), ("match", 8)]) (N := NPlayDay) (sc := defScope sPlayDay) (by decide +kernel)) (fun _ _ _ _ _ => by exact pg_tup rfl (pgs_cons (pg_name (i := 6) scPlayDay.nd rfl (.inl rfl)) (pgs_cons (pg_name (i := 7) scPlayDay.nd rfl (.inl rfl)) (pgs_cons (pg_name (i := 8) scPlayDay.nd rfl (.inl rfl)) pgs_nil)))) (fun _ _ _ _ _ => (pts_one (pt_cmpR op_eq (pv 6) (pv 2) (nomark _)))) (fun _ _ _ _ _ => (pe_tup (pa_cons (pv 7) (pa_cons (pv 8) pa_nil)))))
    (pss_cons (ps_set (i := 9) scPlayDay.nd rfl (.inl rfl) (pe_callB (cr_sortP2 hu64) (by rfl) T.m_sorted (by decide +kernel) (pa_cons (pe_op op_cat (pe_lc (own := [("match", 8)]) rfl scPlayDay.nd (pi_tup (pe_meth (pv 0) T.clWeek T.mWeekOn GWeekOn (hr.mono (by decide)) (bWeekOn T) .nil pass0 (pa_cons (pv 2) pa_nil))) (blkOk_by (own := [("match", 8)]) (N := NPlayDay) (sc := defScope sPlayDay) (by decide +kernel)) (fun _ _ _ _ _ => by exact pg_name (i := 8) scPlayDay.nd rfl (.inl rfl)) (fun _ _ _ _ _ => pts_nil) (fun _ _ _ _ _ => (pe_tup (pa_cons (pv 2) (pa_cons (pv 8) pa_nil))))) (pv 5)) pa_nil)))
    (pss_cons (ps_set (i := 10) scPlayDay.nd rfl (.inl rfl) (pe_callB (cr_sortT3 hu64) (by rfl) T.m_sorted (by decide +kernel) (pa_cons (pe_lc (own := [("wait", 11)]) rfl scPlayDay.nd (pi_either (pi_list (pv 3)) (pi_tup (pv 3))) (blkOk_by (own := [("wait", 11)]) (N := NPlayDay) (sc := defScope sPlayDay) (by decide +kernel)) (fun _ _ _ _ _ => by exact pg_name (i := 11) scPlayDay.nd rfl (.inl rfl)) (fun _ _ _ _ _ => (pts_one (pt_cmpR op_gt (pe_ix (ix_tupK (K := K) rfl) (pv 11) pe_int (fun _ _ => rfl)) (pv 2) (nomark _)))) (fun _ _ _ _ _ => (pv 11))) pa_nil)))
    (pss_cons (ps_if (pt_not (pt_val (pv 4)))
    (pss_one (ps_ret (pe_tup (pa_cons (pe_callTy call_tuple_of (by rfl) T.m_tuple (by decide +kernel) (pa_cons (pv 9) pa_nil)) (pa_cons (pe_tup pa_nil) (pa_cons (pe_callTy call_tuple_of (by rfl) T.m_tuple (by decide +kernel) (pa_cons (pv 10) pa_nil)) pa_nil))))))
    pss_nil)
    (pss_cons (ps_asg (pe_call GPutOff (hr.mono (by decide)) (by rfl) T.gPutOff T.FPutOff.kp (bPutOff T) .nil pass0 (pa_cons (pv 0) (pa_cons (pv 1) (pa_cons (pv 2) (pa_cons (pv 9) (pa_cons (pv 10) pa_nil)))))) (pg_tup rfl (pgs_cons (pg_name (i := 12) scPlayDay.nd rfl (.inl rfl)) (pgs_cons (pg_name (i := 13) scPlayDay.nd rfl (.inl rfl)) pgs_nil))))
    (pss_one (ps_ret (pe_tup (pa_cons (pe_tup pa_nil) (pa_cons (pv 12) (pa_cons (pv 13) pa_nil))))))))))), ?_⟩
    have wo2 := wo
    obtain ⟨⟨dx, t, ys, ha, ht, dw⟩, _⟩ := wo2
    have lx : xs.length = wt.length := by simpa using dm.len
    have gd2 := gd
    obtain ⟨D1, D2, ml, G1, G2, W1, W2⟩ := gd2
    refine it_seq hs (fun _ q => ⟨_, rfl, q⟩) fun J G wk hG L0 hL0 => lcA (as := wt) (lx ▸ wk) (fun t => pD (t.2.1, t.2.2)) (fun t => decide (t.1 = day)) hG (by omega) hL0 (fun _ => rfl) (fun Nx i u x H1 H2 hu s1 y next skip => ?_) fun H1 zs0 s1 e0 d0 => ?_
    · obtain ⟨rfl, hx⟩ := y
      obtain ⟨d, hd, du⟩ := dm.of_at hx
      rw [List.getElem?_map, hu] at hd
      cases hd
      obtain ⟨b, rfl, hb⟩ := tD_inv (du.same s1)
      refine ⟨b, _, rfl, SqT.of hb, rfl, _, _, rfl, _, _, rfl, _, _, rfl, rfl, rfl, _, rfl, _, rfl, rfl, _, rfl, yn (fun c => ⟨_, rfl, _, rfl, by walk_at "cd", fun p hp => next _ _ (dec_int _ _ ▸ c) (same_new hp) (pD_of (p := (u.2.1, u.2.2)) upd_same)⟩) fun c => skip _ (dec_int _ _ ▸ c) (Same.refl _)⟩
    refine ⟨_, rfl, a, dx, _, rfl, s1 _ _ ha, rfl, _, rfl, a, W.D, W.ms, day, rfl, wo.1.same s1, D1, D2, ml, fun t2 H2 s2 e2 => ⟨t2, rfl, ⟨_, SqT.of e2⟩, fun L hL => lcA (as := onL W.D W.ms day) ((List.length_map (f := V.int) (as := onL W.D W.ms day)) ▸ walk_tup (K := K) (a := t2) (xs := (onL W.D W.ms day).map V.int)) (fun m => pD (day, m)) (fun _ => true) (fun H' s => SqT.of (s _ _ e2)) (by have := onL_len W.D W.ms day; omega) hL (fun _ => rfl) (fun Nx i m x H3 H4 hm s3 y next _ => ?_) fun H3 zs1 s3 e3 d3 => ?_⟩⟩
    · obtain ⟨rfl, hx⟩ := y
      rw [List.getElem?_map, hm] at hx
      cases hx
      exact ⟨rfl, yes_if ⟨_, rfl, _, rfl, by walk_at "cd", fun p hp => next _ _ rfl (same_new hp) (pD_of (p := (day, m)) upd_same)⟩⟩
    rw [List.filter_eq_self.mpr (fun _ _ => rfl)] at d3
    have s23 := s2.trans s3
    have d0' := d0.same s23
    have l0 := d0.len
    have l3 := d3.len
    rw [List.length_map] at l0 l3
    have f0 := List.length_filter_le (fun t : Wt => decide (t.1 = day)) wt
    have f3 := onL_len W.D W.ms day
    refine ⟨_, rfl, L, L0, zs1, zs0, rfl, rfl, e3, s23 _ _ e0, by rw [sizeLine_eq]; omega, fun p hp => ⟨p, _, (onL W.D W.ms day).map (fun m => (day, m)) ++ (wt.filter fun t => decide (t.1 = day)).map (fun t => (t.2.1, t.2.2)), rfl, SqL.of upd_same, ?_, fun z w hz dz => ?_⟩⟩
    · rw [List.map_append, List.map_map, List.map_map]
      exact DmAll.app (d3.same (same_new hp)) (d0'.same (same_new hp))
    have dz : DmAll N0 _ w ((dueL W day wt).map pD) := dz
    have s4 := ((s1.trans s23).trans (same_new (o := .lst (zs1 ++ zs0)) hp)).trans (same_new (o := .lst w) hz)
    have ez : (upd (upd H3 p (.lst (zs1 ++ zs0))) z (.lst w)) z = some (.lst w) := upd_same
    generalize upd (upd H3 p (.lst (zs1 ++ zs0))) z (.lst w) = H5 at s4 ez dz ⊢
    refine it_seq (seq_same s4 hs) (fun _ q => ⟨_, rfl, q⟩) fun J G wk hG L2 hL2 => lcA (as := wt) (lx ▸ wk) tD (fun t => decide (day < t.1)) hG (by omega) hL2 (fun _ => rfl) (fun Nx i u x H6 H7 hu s6 y next skip => ?_) fun H6 zs2 s6 e6 d6 => ?_
    · obtain ⟨rfl, hx⟩ := y
      obtain ⟨d, hd, du⟩ := dm.of_at hx
      rw [List.getElem?_map, hu] at hd
      cases hd
      have du2 := du.same (s4.trans s6)
      obtain ⟨b, rfl, hb⟩ := tD_inv du2
      exact ⟨rfl, _, rfl, b, _, (0 : Int), .int u.1, rfl, rfl, SqT.of hb, rfl, _, rfl, _, _, rfl, rfl, _, rfl, yn (fun c => ⟨_, rfl, next _ _ c (Same.refl _) du2⟩) fun c => skip _ c (Same.refl _)⟩
    refine ⟨L2, zs2, _, rfl, SqL.of e6, d6, fun z2 w2 hz2 dz2 => ?_⟩
    have dz2 : DmAll N0 _ w2 ((laterL day wt).map tD) := dz2
    have s7 := s6.trans (same_new (o := .lst w2) hz2)
    have e7 := s7 _ _ ez
    have dz7 := dz.same s7
    have s8 := s4.trans s7
    have ez2 : (upd H6 z2 (.lst w2)) z2 = some (.lst w2) := upd_same
    generalize upd H6 z2 (.lst w2) = H8 at s7 e7 dz7 s8 ez2 dz2 ⊢
    refine ⟨_, rfl, rainy, rfl, ?_⟩
    cases rainy with
    | false =>
      refine ite2 (fun _ => ?_) (fun z => absurd rfl z)
      refine ⟨_, rfl, z, w, rfl, .inl ⟨SqL.of e7, fun t1 ht1 => ⟨by walk_at "cd", fun t2 ht2 => ⟨_, rfl, z2, w2, rfl, .inl ⟨SqL.of (((same_new ht1).trans (same_new ht2)) _ _ ez2), fun t3 ht3 => ⟨by walk_at "cd", fun t4 ht4 => ?_⟩⟩⟩⟩⟩⟩
      have sA := same_new (o := .tup w) ht1
      have sB := same_new (o := .tup []) ht2
      have sC := same_new (o := .tup w2) ht3
      have sD := same_new (o := .tup [.ref t1, .ref t2, .ref t3]) ht4
      refine q _ _ ((((s8.trans sA).trans sB).trans sC).trans sD) ?_
      exact .tup id upd_same (.cons (.tup id (((sB.trans sC).trans sD) _ _ upd_same) (dz7.same (((sA.trans sB).trans sC).trans sD))) (.cons (.tup id ((sC.trans sD) _ _ upd_same) .nil) (.cons (.tup id (sD _ _ upd_same) (dz2.same (((sA.trans sB).trans sC).trans sD))) .nil)))
    | true =>
      refine ite2 (fun z => nomatch z) fun _ => ?_
      have n1 := due_len W gd day wt
      have n2 := later_len day wt
      refine ⟨_, rfl, _, rfl, _, rfl, _, rfl, _, rfl, a, r, z, z2, W, day, w, w2, dueL W day wt, laterL day wt, rfl, gd, wo.same s8, sd, SqL.of e7, dz7, due_ok W day wt sd gw so, by omega, SqL.of ez2, dz2, by omega, fun u hu => gw u (later_mem hu).1, fun v H9 s9 dv => ?_⟩
      obtain ⟨p9, x9, y9, rfl, e9, dx9, dy9⟩ := tup2_inv dv
      refine ⟨p9, _, rfl, SqT.of e9, rfl, _, _, rfl, _, _, rfl, rfl, ?_⟩
      refine ⟨by walk_at "cd", fun t1 ht1 => ⟨_, rfl, _, rfl, by walk_at "cd", fun t2 ht2 => ?_⟩⟩
      have sA := same_new (o := .tup []) ht1
      have sB := same_new (o := .tup [.ref t1, x9, y9]) ht2
      refine q _ _ (((s8.trans s9).trans sA).trans sB) ?_
      exact .tup id upd_same (.cons (.tup id (sB _ _ upd_same) .nil) (.cons (dx9.same (sA.trans sB)) (.cons (dy9.same (sA.trans sB)) .nil)))
end

section
variable {P : Program} {w : World} {K : PySem.W.Frag} {mg : Str → Option Value} {base : Heap}
theorem ok_play (T : Txt K mg) : FnOk P w K mg base CX0 6 T.fPlay T.fdPlay ["week", "rule", "rain"] (spPlay K T.CWeek T.CRule T.CPlayed) := by
  have GAsRain := ok_rain (P := P) (w := w) (base := base) T
  have GPlayDay := ok_day (P := P) (w := w) (base := base) T
  have GPlayedInit := ok_playedI (P := P) (w := w) (base := base) T
  refine T.FPlay.ok scPlay (fun vs H Q E h => ?_) (fun cdv A outer s H vs Q E hr h => ?_)
  · obtain ⟨a, r, l, W, bs, rfl, _⟩ := h
    rfl
  · obtain ⟨a, r, l, W, bs, rfl, gd, wo, hs, hl, q⟩ := h
    refine ⟨_, (pss_cons (ps_par3 (i := 3) (j := 4) (l := 5) rfl scPlay.nd rfl rfl rfl (by decide) (by decide) (by decide) rfl rfl rfl (pa_cons (pe_lst pa_nil) (pa_cons (pe_lst pa_nil) (pa_cons (pe_tup pa_nil) pa_nil))) (by rfl))
    (pss_cons (ps_for PassesOwn.never rfl (pi_enumT (by rfl) T.m_enumerate (pa_cons (pe_call GAsRain (hr.mono (by decide)) (by rfl) T.gAsRain T.FAsRain.kp (bAsRain T) .nil pass0 (pa_cons (pv 2) pa_nil)) pa_nil)) (pg_tup rfl (pgs_cons (pg_name (i := 6) scPlay.nd rfl (.inl rfl)) (pgs_cons (pg_name (i := 7) scPlay.nd rfl (.inl rfl)) pgs_nil)))
    (pss_cons (ps_asg (pe_call GPlayDay (hr.mono (by decide)) (by rfl) T.gPlayDay T.FPlayDay.kp (bPlayDay T) .nil pass0 (pa_cons (pv 0) (pa_cons (pv 1) (pa_cons (pv 6) (pa_cons (pv 5) (pa_cons (pv 7) pa_nil)))))) (pg_tup rfl (pgs_cons (pg_name (i := 8) scPlay.nd rfl (.inl rfl)) (pgs_cons (pg_name (i := 9) scPlay.nd rfl (.inl rfl)) (pgs_cons (pg_name (i := 5) scPlay.nd rfl (.inl rfl)) pgs_nil)))))
    (pss_cons (ps_expr (pe_bm PySem.F.plainAttrs_list PySem.F.slot_list_append PySem.F.type_list_append mt_append (pv 3) (pa_cons (pv 8) pa_nil)))
    (pss_one (ps_expr (pe_bm PySem.F.plainAttrs_list PySem.F.slot_list_extend PySem.F.type_list_extend mt_extT (pv 4) (pa_cons (pv 9) pa_nil)))))))
    (pss_one (ps_ret (pe_make T.MPlayed GPlayedInit (hr.mono (by decide)) (by rfl) T.gPlayed (bPlayedInit T) .nil pass0 (pa_cons (pe_callTy call_tuple_of (by rfl) T.m_tuple (by decide +kernel) (pa_cons (pv 3) pa_nil)) (pa_cons (pe_callTy call_tuple_of (by rfl) T.m_tuple (by decide +kernel) (pa_cons (pv 4) pa_nil)) (pa_cons (pv 5) pa_nil)))))))), ?_⟩
    refine ⟨by walk_at "cd", fun L1 hL1 => ⟨by walk_at "cd", fun L2 hL2 => ⟨by walk_at "cd", fun t0 ht0 => ⟨_, _, _, rfl, ?_⟩⟩⟩⟩
    have n12 : L2 ≠ L1 := fun z => by
      rw [z, upd_same] at hL2
      cases hL2
    have sA := same_new (o := .lst []) hL1
    have sB := same_new (o := .lst []) hL2
    have sC := same_new (o := .tup []) ht0
    have s0 := (sA.trans sB).trans sC
    refine ⟨_, rfl, l, bs, rfl, seq_same s0 hs, by omega, fun t H1 s1 ht => ⟨t, _, rfl, ht, ?_⟩⟩
    have eL1 : H1 L1 = some (.lst []) := (sB.trans (sC.trans s1)) _ _ upd_same
    have eL2 : H1 L2 = some (.lst []) := (sC.trans s1) _ _ upd_same
    have et0 : H1 t0 = some (.tup []) := s1 _ _ upd_same
    have s01 := s0.trans s1
    have hLs : ∀ H' : Hp, (∃ ys, H' L1 = some (.lst ys)) → (∃ ys, H' L2 = some (.lst ys)) → Ls (fun a => a = L1 ∨ a = L2) H' := fun H' h1 h2 a ha => by
      rcases ha with rfl | rfl
      · exact h1
      · exact h2
    have hM1 := hLs H1 ⟨_, eL1⟩ ⟨_, eL2⟩
    have lb : (bs.map V.bl).length = bs.length := List.length_map ..
    have back : ∀ H', Kp (fun a => a = L1 ∨ a = L2) H1 H' → Same H H' := fun H' k b u e => k b u (s01 b u e) fun z => by
      rcases z with z | z
      · rw [z, hL1] at e
        cases e
      · rw [z, show H L2 = none by rwa [upd_ne n12] at hL2] at e
        cases e
    refine for_it (lb ▸ walk_enumT (K := K) (a := t) (xs := bs.map V.bl)) (fun i σ H' => Kp (fun a => a = L1 ∨ a = L2) H1 H' ∧ Has H' L1 ((((dayl bs).take i).foldl (stepPl W) ([], [], [])).1.map plD) ∧ Has H' L2 ((((dayl bs).take i).foldl (stepPl W) ([], [], [])).2.1.map tD) ∧
      ∃ z o6 o7 o8 o9, σ = [some (.ref a), some (.ref r), some (.ref l), some (.ref L1), some (.ref L2), some z, o6, o7, o8, o9] ∧ Dm N0 H' z (.tuple ((((dayl bs).take i).foldl (stepPl W) ([], [], [])).2.2.map tD)))
      ⟨Kp.rf, ⟨_, eL1, .nil⟩, ⟨_, eL2, .nil⟩, .ref t0, none, none, none, none, rfl, .tup id et0 .nil⟩ (fun i σ H' _ p => SqT.kp ht hM1 p.1) (fun i x σ H2 H3 hi pv y => ?_) (fun σ H2 pv => ?_)
    · obtain ⟨k2, h1, h2, z, o6, o7, o8, o9, rfl, dz⟩ := pv
      obtain ⟨p, z1, z2, rfl, hp, rfl, e1, e2⟩ := y
      cases e1
      have e2 : (bs.map V.bl)[i]? = some z2 := e2
      rw [List.getElem?_map] at e2
      cases hb : bs[i]? with
      | none => rw [hb] at e2; cases e2
      | some b =>
        rw [hb] at e2
        cases e2
        have ed := dayl_at hb
        have et : ((dayl bs).take (i + 1)).foldl (stepPl W) ([], [], []) = stepPl W (((dayl bs).take i).foldl (stepPl W) ([], [], [])) (i, b) := by
          rw [List.take_add_one, ed]
          show (((dayl bs).take i) ++ [(i, b)]).foldl _ _ = _
          rw [List.foldl_append]
          rfl
        have ok := pl_ok W gd ((dayl bs).take i) ([], [], []) (fun d hd => dayl_le hl d (List.mem_of_mem_take hd)) (fun _ h => nomatch h) (fun _ h => nomatch h)
        have lt1 := List.length_take_le i (dayl bs)
        have lt2 : ((dayl bs).take i).length ≤ 100 := by
          have := List.length_take_le' i (dayl bs)
          rw [dayl_len] at this
          omega
        have l1 : (((dayl bs).take i).foldl (stepPl W) ([], [], [])).1.length = ((dayl bs).take i).length := (pl_len W _ _).trans (Nat.zero_add _)
        rw [et]
        generalize (((dayl bs).take i).foldl (stepPl W) ([], [], [])) = st at h1 h2 dz ok l1 ⊢
        obtain ⟨gw, so, n1, n2⟩ := ok
        have n1 : st.2.2.length ≤ 0 + 30 * ((dayl bs).take i).length := n1
        have n2 : st.2.1.length ≤ 0 + ((dayl bs).take i).length * (0 + 30 * ((dayl bs).take i).length + 30) := n2
        have wo2 : WrO K T.CWeek T.CRule H2 a r W := wo.same (back _ k2)
        have sp := same_new (o := .tup [.int (i : Nat), .bl b]) hp
        obtain ⟨pz, zs, rfl, epz, dzs⟩ := tupn_inv dz
        refine ⟨p, _, rfl, SqT.of upd_same, rfl, _, _, rfl, _, _, rfl, rfl, ?_⟩
        refine ⟨_, rfl, _, rfl, _, rfl, _, rfl, _, rfl, a, r, pz, W, (i : Int), zs, st.2.2, b, rfl, gd, wo2.same sp, ⟨by omega, by omega⟩, .inr (SqT.of (sp _ _ epz)), dzs.same sp, by omega, gw, so, fun v H4 s4 dv => ?_⟩
        obtain ⟨pv, x1, x2, x3, rfl, epv, d1, d2, d3⟩ := tup3_inv dv
        refine ⟨pv, _, rfl, SqT.of epv, rfl, _, _, rfl, _, _, rfl, _, _, rfl, rfl, ?_⟩
        have s24 := sp.trans s4
        have h1' := h1.same s24
        have h2' := h2.same s24
        obtain ⟨ys1, e1, _, l3⟩ := h1'.len
        obtain ⟨ys2, e2', _, l4⟩ := h2'.len
        rw [List.length_map] at l3 l4
        obtain ⟨pg, gs, rfl, epg, dgs⟩ := tupn_inv d2
        have lg := dgs.len
        rw [List.length_map] at lg
        have dok := (day_ok W gd (i : Int) st.2.2 b ⟨by omega, by omega⟩ gw so).2.2.2
        refine ⟨_, rfl, .inl ⟨rfl, _, SqL.of e1⟩, _, rfl, L1, ys1, x1, rfl, rfl, e1, by rw [sizeLine_eq]; omega, ?_⟩
        have e2x : (upd H4 L1 (.lst (ys1 ++ [x1]))) L2 = some (.lst ys2) := (upd_ne n12).trans e2'
        have gx : SqT K (upd H4 L1 (.lst (ys1 ++ [x1]))) pg gs := SqT.of ((upd_ne fun z => by rw [z, e1] at epg; cases epg).trans epg)
        have mul : ((dayl bs).take i).length * (0 + 30 * ((dayl bs).take i).length + 30) ≤ 100 * (0 + 30 * 100 + 30) := Nat.mul_le_mul lt2 (by omega)
        refine ⟨_, rfl, .inl ⟨rfl, _, SqL.of e2x⟩, _, rfl, L2, pg, ys2, gs, rfl, rfl, e2x, gx, by rw [sizeLine_eq]; omega, ?_⟩
        have k4 : Kp (fun a => a = L1 ∨ a = L2) H1 (upd (upd H4 L1 (.lst (ys1 ++ [x1]))) L2 (.lst (ys2 ++ gs))) := fun c u e n => (upd_ne fun z => n (.inr z)).trans ((upd_ne fun z => n (.inl z)).trans (s24 _ _ (k2 c u e n)))
        have hp1 := Has.push (d := plD (playDay W (i : Int) st.2.2 b).1) h1' e1 d1 (tupo_plD _)
        have hp2 := Has.other (o := .lst (ys1 ++ [x1])) h2' (tupos_tD _) n12 e1
        have dg1 : DmAll N0 (upd H4 L1 (.lst (ys1 ++ [x1]))) gs ((playDay W (i : Int) st.2.2 b).2.1.map tD) := DmAll.mv (M := (· = L1)) (fun c u e n => ⟨(upd_ne n).trans e, id⟩) _ _ (DmAll.off (fun c z xs q => by rw [z, e1] at q; cases q) _ _ (tupos_tD _) dgs)
        have hp3 := Has.ext hp2 e2x dg1 (tupos_tD _)
        have hp4 := Has.other (o := .lst (ys2 ++ gs)) hp1 (by
          rw [show st.1.map plD ++ [plD (playDay W (i : Int) st.2.2 b).1] = (st.1 ++ [(playDay W (i : Int) st.2.2 b).1]).map plD by rw [List.map_append]; rfl]
          exact tupos_map tupo_plD _) (Ne.symm n12) e2x
        refine ⟨k4, ?_, ?_, x3, _, _, _, _, rfl, ?_⟩
        · rw [show (stepPl W st (i, b)).1 = st.1 ++ [(playDay W (i : Int) st.2.2 b).1] from rfl, List.map_append]
          exact hp4
        · rw [show (stepPl W st (i, b)).2.1 = st.2.1 ++ (playDay W (i : Int) st.2.2 b).2.1 from rfl, List.map_append]
          exact hp3
        · refine Dm.mv (M := fun a => a = L1 ∨ a = L2) (fun c u e n => ⟨(upd_ne fun z => n (.inr z)).trans ((upd_ne fun z => n (.inl z)).trans e), id⟩) _ _ (Dm.off (fun c z xs q => ?_) _ _ (tupos_tD _) d3)
          rcases z with z | z
          · rw [z, e1] at q
            cases q
          · rw [z, e2'] at q
            cases q
    · obtain ⟨k2, h1, h2, z, o6, o7, o8, o9, rfl, dz⟩ := pv
      rw [← dayl_len bs, List.take_length] at h1 h2 dz
      obtain ⟨ys1, e1, d1, _⟩ := h1.len
      obtain ⟨ys2, e2, d2, _⟩ := h2.len
      refine ⟨_, rfl, L1, ys1, rfl, .inl ⟨SqL.of e1, fun t1 ht1 => ⟨_, rfl, L2, ys2, rfl, .inl ⟨SqL.of (same_new ht1 _ _ e2), fun t2 ht2 => ⟨_, rfl, fun x dx hx hdx nx => ⟨x, dx, .ref t1, .ref t2, z, rfl, upd_same, fun H' k e => ⟨rfl, ?_⟩⟩⟩⟩⟩⟩⟩
      have sD := same_new (o := .tup ys1) ht1
      have sE := same_new (o := .tup ys2) ht2
      have sF := made_same hx hdx k
      refine q _ H' ((((back _ k2).trans sD).trans sE).trans sF) ⟨x, dx, _, _, z, rfl, e, ?_, ?_, dz.same ((sD.trans sE).trans sF)⟩
      · exact .tup id ((sE.trans sF) _ _ upd_same) (d1.same ((sD.trans sE).trans sF))
      · exact .tup id (sF _ _ upd_same) (d2.same ((sD.trans sE).trans sF))
end

section
variable {P : Program} {w : World} {K : PySem.W.Frag} {mg : Str → Option Value} {base : Heap}
theorem ok_take (T : Txt K mg) : FnOk P w K mg base CX0 1 T.fTake T.fdTake ["_law_box_here", "_law_many"] spTake := by
  refine T.FTake.ok scTake (fun vs H Q E h => ?_) (fun cdv A outer s H vs Q E hr h => ?_)
  · obtain ⟨b, m, rfl, _⟩ := h
    rfl
  · obtain ⟨b, m, rfl, hm, hm2, ⟨wd, sd, ct, hb⟩, k⟩ := h
    have m0 : m ≠ 0 := by omega
    refine ⟨_, (pss_cons (ps_if (pt_cmpR op_gt (pe_ix ix_list (pv 0) pe_int (fun _ _ => rfl)) pe_int (nomark _))
    (pss_cons (ps_set (i := 2) scTake.nd rfl (.inl rfl) (pe_op op_modN (pe_callTy call_int1 (by rfl) T.m_int (by decide +kernel) (pa_cons (pe_ix ix_list (pv 0) pe_int (fun _ _ => rfl)) pa_nil)) (pv 1)))
    (pss_cons (ps_asg (pe_op op_fdivN (pe_ix ix_list (pv 0) pe_int (fun _ _ => rfl)) (pv 1)) (pg_sub (pv 0) pe_int set_list))
    (pss_one (ps_ret (pv 2)))))
    pss_nil)
    (pss_cons (ps_asg (pe_op op_add (pe_ix ix_list (pv 0) pe_int (fun _ _ => rfl)) pe_int) (pg_sub (pv 0) pe_int set_list))
    (pss_cons (ps_set (i := 3) scTake.nd rfl (.inl rfl) (pe_op op_modN (pe_callTy call_int1 (by rfl) T.m_int (by decide +kernel) (pa_cons (pe_op op_mul (pe_op op_add (pe_ix ix_list (pv 0) pe_int (fun _ _ => rfl)) (pe_op op_mul pe_int (pe_ix ix_list (pv 0) pe_int (fun _ _ => rfl)))) pe_int) pa_nil)) pe_int))
    (pss_cons (ps_asg (pe_op op_add (pe_op op_modN (pe_callTy call_int1 (by rfl) T.m_int (by decide +kernel) (pa_cons (pe_op op_add (pe_op op_mul (pv 3) pe_int) pe_int) pa_nil)) pe_int) pe_int) (pg_sub (pv 0) pe_int set_list))
    (pss_one (ps_ret (pe_op op_modN (pe_callTy call_int1 (by rfl) T.m_int (by decide +kernel) (pa_cons (pe_op op_fdivN (pe_op op_add (pe_op op_mul (pv 3) pe_int) (pe_ix ix_list (pv 0) pe_int (fun _ _ => rfl))) pe_int) pa_nil)) (pv 1)))))))), ?_⟩
    walk_at "rd"
    refine ite2 (fun _ => ?_) (fun _ => ?_)
    · walk_at "rd"
      exact k _ _ (Int.fmod_nonneg_of_pos _ hm) (Int.fmod_lt_of_pos _ hm) ⟨_, _, _, upd_same⟩ (Kp.rf.wr rfl)
    · walk_at "rd"
      exact k _ _ (Int.fmod_nonneg_of_pos _ hm) (Int.fmod_lt_of_pos _ hm) ⟨_, _, _, upd_same⟩ (Kp.wr (M := (· = b)) (Kp.wr (M := (· = b)) Kp.rf rfl) rfl)
theorem ok_box (T : Txt K mg) : FnOk P w K mg base CX0 1 T.fBox T.fdBox ["_law_script", "_law_k"] (spBox K) := by
  refine T.FBox.ok scBox (fun vs H Q E h => ?_) (fun cdv A outer s H vs Q E hr h => ?_)
  · obtain ⟨a, ns, k, rfl, _⟩ := h
    rfl
  · obtain ⟨a, ns, k, rfl, hs, hl, h0, h1, q⟩ := h
    refine ⟨_, (pss_cons (ps_set (i := 2) scBox.nd rfl (.inl rfl) (pe_op op_add (pe_op op_mul pe_int (pv 1)) pe_int))
    (pss_cons (ps_if (pt_cmpR op_lt (pv 1) (pe_callB call_len_seq (by rfl) T.m_len (by decide +kernel) (pa_cons (pv 0) pa_nil)) (nomark _))
    (pss_one (ps_set (i := 2) scBox.nd rfl (.inl rfl) (pe_callB call_abs (by rfl) T.m_abs (by decide +kernel) (pa_cons (pe_ix ix_list (pv 0) (pv 1) (fun _ _ => rfl)) pa_nil))))
    (pss_one (ps_if (pt_cmpR op_gt (pe_callB call_len_seq (by rfl) T.m_len (by decide +kernel) (pa_cons (pv 0) pa_nil)) pe_int (nomark _))
    (pss_one (ps_set (i := 2) scBox.nd rfl (.inl rfl) (pe_op op_add (pv 2) (pe_op op_mul (pe_op op_modN (pe_callTy call_int1 (by rfl) T.m_int (by decide +kernel) (pa_cons (pe_callB call_abs (by rfl) T.m_abs (by decide +kernel) (pa_cons (pe_callTy call_int1 (by rfl) T.m_int (by decide +kernel) (pa_cons (pe_ix ix_list (pv 0) (pe_op op_modN (pe_callTy call_int1 (by rfl) T.m_int (by decide +kernel) (pa_cons (pv 1) pa_nil)) (pe_callB call_len_seq (by rfl) T.m_len (by decide +kernel) (pa_cons (pv 0) pa_nil))) (fun _ _ => rfl)) pa_nil)) pa_nil)) pa_nil)) pe_int) pe_int))))
    pss_nil)))
    (pss_cons (ps_set (i := 3) scBox.nd rfl (.inl rfl) (pe_op op_add (pe_op op_modN (pe_callTy call_int1 (by rfl) T.m_int (by decide +kernel) (pa_cons (pe_op op_add (pe_op op_mul (pe_op op_modN (pe_callTy call_int1 (by rfl) T.m_int (by decide +kernel) (pa_cons (pv 2) pa_nil)) pe_int) pe_int) (pe_op op_mul pe_int (pv 1))) pa_nil)) pe_int) pe_int))
    (pss_one (ps_ret (pe_lst (pa_cons (pe_ix ix_list (pe_lst (pa_cons pe_int (pa_cons (pv 2) pa_nil))) (pe_callTy call_int1 (by rfl) T.m_int (by decide +kernel) (pa_cons (pe_cmpR op_ge (pv 2) (pe_op op_pow pe_int pe_int) (nomark _)) pa_nil)) (fun _ _ => rfl)) (pa_cons (pv 3) (pa_cons pe_int pa_nil))))))))), ?_⟩
    walk_at "rd"
    have low : ∀ x : Int, 0 ≤ x.fmod 2147483629 ∧ x.fmod 2147483629 < 2147483629 := fun x => ⟨Int.fmod_nonneg_of_pos _ (by decide), Int.fmod_lt_of_pos _ (by decide)⟩
    have lm : (List.map V.int ns).length = ns.length := List.length_map ..
    refine ite2 (fun hk => ?_) (fun hk => ?_)
    · obtain ⟨n, rfl⟩ := Int.eq_ofNat_of_zero_le h0
      have hn : n < ns.length := by
        have := of_decide_eq_true hk
        omega
      walk_at "rd"
      refine ⟨a, _, n, .int ns[n], rfl, rfl, hs, atI_nat (by rw [List.getElem?_map, List.getElem?_eq_getElem hn]; rfl), ?_⟩
      walk_at "rd"
      intro p hp
      walk_at "rd"
      refine .inr ⟨_, rfl, ?_⟩
      generalize decide ((_ : Int) ≤ (_ : Int)) = bb
      cases bb <;> (refine ⟨p, _, _, _, rfl, rfl, SqL.of upd_same, rfl, ?_⟩; walk_at "rd"; exact fun b hb => q b _ (by have z := hb; by_cases e : b = p <;> first | (rw [e, upd_same] at z; cases z; done) | (rwa [upd_ne e] at z)) ⟨_, _, _, upd_same⟩ ((same_new hp).trans (same_new hb)))
    · walk_at "rd"
      refine ite2 (fun hp => ?_) (fun hp => ?_)
      · have hp := of_decide_eq_true hp
        have l0 : ((List.map V.int ns).length : Int) ≠ 0 := by omega
        walk_at "rd"
        obtain ⟨n, en⟩ := Int.eq_ofNat_of_zero_le (Int.fmod_nonneg_of_pos k hp)
        have hn : n < ns.length := by
          have := Int.fmod_lt_of_pos k hp
          omega
        refine ⟨a, _, n, .int ns[n], rfl, congrArg V.int en, hs, atI_nat (by rw [List.getElem?_map, List.getElem?_eq_getElem hn]; rfl), ?_⟩
        walk_at "rd"
        intro p hp
        walk_at "rd"
        refine .inr ⟨_, rfl, ?_⟩
        generalize decide ((_ : Int) ≤ (_ : Int)) = bb
        cases bb <;> (refine ⟨p, _, _, _, rfl, rfl, SqL.of upd_same, rfl, ?_⟩; walk_at "rd"; exact fun b hb => q b _ (by have z := hb; by_cases e : b = p <;> first | (rw [e, upd_same] at z; cases z; done) | (rwa [upd_ne e] at z)) ⟨_, _, _, upd_same⟩ ((same_new hp).trans (same_new hb)))
      · walk_at "rd"
        intro p hp
        walk_at "rd"
        refine .inr ⟨_, rfl, ?_⟩
        generalize decide ((_ : Int) ≤ (_ : Int)) = bb
        cases bb <;> (refine ⟨p, _, _, _, rfl, rfl, SqL.of upd_same, rfl, ?_⟩; walk_at "rd"; exact fun b hb => q b _ (by have z := hb; by_cases e : b = p <;> first | (rw [e, upd_same] at z; cases z; done) | (rwa [upd_ne e] at z)) ⟨_, _, _, upd_same⟩ ((same_new hp).trans (same_new hb)))
end

section
variable {P : Program} {w : World} {K : PySem.W.Frag} {mg : Str → Option Value} {base : Heap}
theorem bRule3 (T : Txt K mg) : ∃ ds, Vals [.str "first"] ds ∧ Binds K T.fdRuleInit ["self", "gap", "window", "let", "order"] ds :=
  T.FRuleInit.binds1 4 0 (by simp) rfl fun _ _ _ _ _ _ _ us its h1 h2 => match us, its, h1, h2 with | [_, _, _, _], [_], _, _ => ⟨_, rfl, rfl⟩
theorem bRule4 (T : Txt K mg) : ∃ ds, Vals [] ds ∧ Binds K T.fdRuleInit ["self", "gap", "window", "let", "order"] ds :=
  T.FRuleInit.binds1 5 1 (by simp) rfl fun _ _ _ _ _ _ _ us its h1 h2 => match us, its, h1, h2 with | [_, _, _, _, _], [_], _, _ => ⟨_, rfl, rfl⟩
theorem ok_law (T : Txt K mg) : FnOk P w K mg base CX0 8 T.fLaw T.fdLaw ["_law_script"] (spLaw K) := by
  have GTake := ok_take (P := P) (w := w) (base := base) T
  have GBox := ok_box (P := P) (w := w) (base := base) T
  have GWeekInit := ok_weekI (P := P) (w := w) (base := base) T
  have GRuleInit := ok_ruleI (P := P) (w := w) (base := base) T
  have GPlay := ok_play (P := P) (w := w) (base := base) T
  obtain ⟨ds3, v3, b3⟩ := bRule3 T
  obtain ⟨ds4, v4, b4⟩ := bRule4 T
  refine T.FLaw.ok scLaw (fun vs H Q E h => ?_) (fun cdv A outer s H vs Q E hr h => ?_)
  · obtain ⟨a, ns, rfl, _⟩ := h
    rfl
  · obtain ⟨a, ns, rfl, hs, hl, q⟩ := h
    have hu64 := hr.units
    refine ⟨_, (pss_cons (ps_for PassesOwn.never rfl (pi_range1 (by rfl) T.m_range (pa_cons (pe_callB (call_max2 rfl) (by rfl) T.m_max (by decide +kernel) (pa_cons pe_int (pa_cons (pe_callB (call_min2 rfl) (by rfl) T.m_min (by decide +kernel) (pa_cons pe_int (pa_cons (pe_callB call_len_seq (by rfl) T.m_len (by decide +kernel) (pa_cons (pv 0) pa_nil)) pa_nil))) pa_nil))) pa_nil)) (pg_name (i := 1) scLaw.nd rfl (.inl rfl))
    (pss_cons (ps_set (i := 2) scLaw.nd rfl (.inl rfl) (pe_call GBox (hr.mono (by decide)) (by rfl) T.gBox T.FBox.kp (bBox T) .nil pass0 (pa_cons (pv 0) (pa_cons (pv 1) pa_nil))))
    (pss_cons (ps_set (i := 3) scLaw.nd rfl (.inl rfl) (pe_op op_rep (pe_lst (pa_cons pe_bl pa_nil)) (pe_call GTake (hr.mono (by decide)) (by rfl) T.gTake T.FTake.kp (bTake T) .nil pass0 (pa_cons (pv 2) (pa_cons pe_int pa_nil)))))
    (pss_cons (ps_set (i := 4) scLaw.nd rfl (.inl rfl) (pe_make T.MWeek GWeekInit (hr.mono (by decide)) (by rfl) T.gWeek (bWeekInit T) .nil pass0 (pa_cons pe_int (pa_cons (pe_lst (pa_cons (pe_tup (pa_cons pe_int (pa_cons pe_str (pa_cons pe_str pa_nil)))) (pa_cons (pe_tup (pa_cons pe_int (pa_cons pe_str (pa_cons pe_str pa_nil)))) pa_nil))) pa_nil))))
    (pss_cons (ps_set (i := 5) scLaw.nd rfl (.inl rfl) (pe_call GPlay (hr.mono (by decide)) (by rfl) T.gPlay T.FPlay.kp (bPlay T) .nil pass0 (pa_cons (pv 4) (pa_cons (pe_make T.MRule GRuleInit (hr.mono (by decide)) (by rfl) T.gRule b3 v3 pass0 (pa_cons pe_int (pa_cons pe_int (pa_cons (pe_tup (pa_cons pe_int (pa_cons pe_int (pa_cons pe_int pa_nil)))) pa_nil)))) (pa_cons (pe_op op_cat (pe_lst (pa_cons pe_bl (pa_cons pe_bl (pa_cons pe_bl pa_nil)))) (pv 3)) pa_nil)))))
    (pss_cons (ps_if (PW.pt (pw_or (pt_cmpR (op_neD hu64) (pe_slice sl_tupA (pe_fld (pv 5) rfl) po_none (po_some pe_int)) (pe_tup (pa_cons (pe_tup pa_nil) (pa_cons (pe_tup pa_nil) (pa_cons (pe_tup (pa_cons (pe_tup (pa_cons pe_int (pa_cons pe_int pa_nil))) (pa_cons (pe_tup (pa_cons pe_int (pa_cons pe_int pa_nil))) pa_nil))) pa_nil)))) (nomark _)) (pw_or1 (pt_cmpR (op_neD hu64) (pe_fld (pv 5) rfl) (pe_tup pa_nil) (nomark _)))))
    (pss_one (ps_ret pe_bl))
    pss_nil)
    (pss_cons (ps_set (i := 6) scLaw.nd rfl (.inl rfl) (pe_make T.MWeek GWeekInit (hr.mono (by decide)) (by rfl) T.gWeek (bWeekInit T) .nil pass0 (pa_cons pe_int (pa_cons (pe_lst (pa_cons (pe_tup (pa_cons pe_int (pa_cons pe_str (pa_cons pe_str pa_nil)))) pa_nil)) pa_nil))))
    (pss_cons (ps_set (i := 5) scLaw.nd rfl (.inl rfl) (pe_call GPlay (hr.mono (by decide)) (by rfl) T.gPlay T.FPlay.kp (bPlay T) .nil pass0 (pa_cons (pv 6) (pa_cons (pe_make T.MRule GRuleInit (hr.mono (by decide)) (by rfl) T.gRule b3 v3 pass0 (pa_cons pe_int (pa_cons pe_int (pa_cons (pe_lst (pa_cons pe_int pa_nil)) pa_nil)))) (pa_cons (pe_op op_cat (pe_lst (pa_cons pe_bl (pa_cons pe_bl pa_nil))) (pv 3)) pa_nil)))))
    (pss_cons (ps_if (PW.pt (pw_or (pt_cmpR (op_neD hu64) (pe_fld (pv 5) rfl) (pe_tup (pa_cons (pe_tup (pa_cons pe_int (pa_cons pe_int (pa_cons pe_int pa_nil)))) pa_nil)) (nomark _)) (pw_or1 (pt_cmpR (op_neD hu64) (pe_slice sl_tupA (pe_fld (pv 5) rfl) po_none (po_some pe_int)) (pe_tup (pa_cons (pe_tup pa_nil) (pa_cons (pe_tup pa_nil) pa_nil))) (nomark _)))))
    (pss_one (ps_ret pe_bl))
    pss_nil)
    (pss_cons (ps_set (i := 5) scLaw.nd rfl (.inl rfl) (pe_call GPlay (hr.mono (by decide)) (by rfl) T.gPlay T.FPlay.kp (bPlay T) .nil pass0 (pa_cons (pv 6) (pa_cons (pe_make T.MRule GRuleInit (hr.mono (by decide)) (by rfl) T.gRule b3 v3 pass0 (pa_cons pe_int (pa_cons pe_int (pa_cons (pe_lst (pa_cons pe_int (pa_cons pe_int pa_nil))) pa_nil)))) (pa_cons (pe_lst (pa_cons pe_bl pa_nil)) pa_nil)))))
    (pss_cons (ps_if (PW.pt (pw_or (pt_cmpR (op_neD hu64) (pe_fld (pv 5) rfl) (pe_tup (pa_cons (pe_tup (pa_cons pe_int (pa_cons pe_int (pa_cons pe_int pa_nil)))) pa_nil)) (nomark _)) (pw_or1 (pt_cmpR (op_neD hu64) (pe_fld (pv 5) rfl) (pe_tup pa_nil) (nomark _)))))
    (pss_one (ps_ret pe_bl))
    pss_nil)
    (pss_cons (ps_set (i := 5) scLaw.nd rfl (.inl rfl) (pe_call GPlay (hr.mono (by decide)) (by rfl) T.gPlay T.FPlay.kp (bPlay T) .nil pass0 (pa_cons (pv 6) (pa_cons (pe_make T.MRule GRuleInit (hr.mono (by decide)) (by rfl) T.gRule b3 v3 pass0 (pa_cons pe_int (pa_cons pe_int (pa_cons (pe_lst (pa_cons pe_int pa_nil)) pa_nil)))) (pa_cons (pe_lst (pa_cons pe_bl (pa_cons pe_bl (pa_cons pe_bl (pa_cons pe_bl pa_nil))))) pa_nil)))))
    (pss_cons (ps_if (PW.pt (pw_or (pt_cmpR (op_neD hu64) (pe_fld (pv 5) rfl) (pe_tup (pa_cons (pe_tup pa_nil) (pa_cons (pe_tup pa_nil) (pa_cons (pe_tup pa_nil) (pa_cons (pe_tup (pa_cons (pe_tup (pa_cons pe_int (pa_cons pe_int pa_nil))) pa_nil)) pa_nil))))) (nomark _)) (pw_or (pt_cmpR (op_neD hu64) (pe_fld (pv 5) rfl) (pe_tup pa_nil) (nomark _)) (pw_or1 (pt_cmpR (op_neD hu64) (pe_fld (pv 5) rfl) (pe_tup (pa_cons (pe_tup (pa_cons pe_int (pa_cons pe_int (pa_cons pe_int pa_nil)))) pa_nil)) (nomark _))))))
    (pss_one (ps_ret pe_bl))
    pss_nil)
    (pss_cons (ps_set (i := 7) scLaw.nd rfl (.inl rfl) (pe_make T.MWeek GWeekInit (hr.mono (by decide)) (by rfl) T.gWeek (bWeekInit T) .nil pass0 (pa_cons pe_int (pa_cons (pe_lst (pa_cons (pe_tup (pa_cons pe_int (pa_cons pe_str (pa_cons pe_str pa_nil)))) (pa_cons (pe_tup (pa_cons pe_int (pa_cons pe_str (pa_cons pe_str pa_nil)))) pa_nil))) pa_nil))))
    (pss_cons (ps_set (i := 5) scLaw.nd rfl (.inl rfl) (pe_call GPlay (hr.mono (by decide)) (by rfl) T.gPlay T.FPlay.kp (bPlay T) .nil pass0 (pa_cons (pv 7) (pa_cons (pe_make T.MRule GRuleInit (hr.mono (by decide)) (by rfl) T.gRule b3 v3 pass0 (pa_cons pe_int (pa_cons pe_int (pa_cons (pe_lst (pa_cons pe_int (pa_cons pe_int pa_nil))) pa_nil)))) (pa_cons (pe_lst (pa_cons pe_bl (pa_cons pe_bl (pa_cons pe_bl (pa_cons pe_bl pa_nil))))) pa_nil)))))
    (pss_cons (ps_if (PW.pt (pw_or (pt_cmpR (op_neD hu64) (pe_fld (pv 5) rfl) (pe_tup (pa_cons (pe_tup pa_nil) (pa_cons (pe_tup pa_nil) (pa_cons (pe_tup (pa_cons (pe_tup (pa_cons pe_int (pa_cons pe_int pa_nil))) pa_nil)) (pa_cons (pe_tup (pa_cons (pe_tup (pa_cons pe_int (pa_cons pe_int pa_nil))) pa_nil)) pa_nil))))) (nomark _)) (pw_or1 (pt_cmpR (op_neD hu64) (pe_fld (pv 5) rfl) (pe_tup pa_nil) (nomark _)))))
    (pss_one (ps_ret pe_bl))
    pss_nil)
    (pss_cons (ps_set (i := 8) scLaw.nd rfl (.inl rfl) (pe_make T.MWeek GWeekInit (hr.mono (by decide)) (by rfl) T.gWeek (bWeekInit T) .nil pass0 (pa_cons pe_int (pa_cons (pe_lst (pa_cons (pe_tup (pa_cons pe_int (pa_cons pe_str (pa_cons pe_str pa_nil)))) (pa_cons (pe_tup (pa_cons pe_int (pa_cons pe_str (pa_cons pe_str pa_nil)))) pa_nil))) pa_nil))))
    (pss_cons (ps_for PassesOwn.never rfl (pi_tup (pe_tup (pa_cons pe_str (pa_cons pe_str pa_nil)))) (pg_name (i := 9) scLaw.nd rfl (.inl rfl))
    (pss_cons (ps_set (i := 5) scLaw.nd rfl (.inl rfl) (pe_call GPlay (hr.mono (by decide)) (by rfl) T.gPlay T.FPlay.kp (bPlay T) .nil pass0 (pa_cons (pv 8) (pa_cons (pe_make T.MRule GRuleInit (hr.mono (by decide)) (by rfl) T.gRule b4 v4 pass0 (pa_cons pe_int (pa_cons pe_int (pa_cons (pe_lst (pa_cons pe_int (pa_cons pe_int (pa_cons pe_int pa_nil)))) (pa_cons (pv 9) pa_nil))))) (pa_cons (pe_lst (pa_cons pe_bl (pa_cons pe_bl pa_nil))) pa_nil)))))
    (pss_one (ps_if (pt_cmpR (op_neD hu64) (pe_fld (pv 5) rfl) (pe_tup (pa_cons (pe_tup (pa_cons pe_int (pa_cons pe_int (pa_cons pe_int pa_nil)))) (pa_cons (pe_tup (pa_cons pe_int (pa_cons pe_int (pa_cons pe_int pa_nil)))) pa_nil))) (nomark _))
    (pss_one (ps_ret pe_bl))
    pss_nil))))
    (pss_cons (ps_set (i := 10) scLaw.nd rfl (.inl rfl) (pe_call GPlay (hr.mono (by decide)) (by rfl) T.gPlay T.FPlay.kp (bPlay T) .nil pass0 (pa_cons (pe_make T.MWeek GWeekInit (hr.mono (by decide)) (by rfl) T.gWeek (bWeekInit T) .nil pass0 (pa_cons pe_int (pa_cons (pe_lst (pa_cons (pe_tup (pa_cons pe_int (pa_cons pe_str (pa_cons pe_str pa_nil)))) pa_nil)) pa_nil))) (pa_cons (pe_make T.MRule GRuleInit (hr.mono (by decide)) (by rfl) T.gRule b3 v3 pass0 (pa_cons pe_int (pa_cons pe_int (pa_cons (pe_lst (pa_cons pe_int pa_nil)) pa_nil)))) (pa_cons (pe_op op_cat (pe_lst (pa_cons pe_bl (pa_cons pe_bl pa_nil))) (pe_op op_rep (pe_lst (pa_cons pe_bl pa_nil)) pe_int)) pa_nil)))))
    (pss_cons (ps_if (PW.pt (pw_or (pt_cmpR (op_neD hu64) (pe_slice sl_tupA (pe_fld (pv 10) rfl) (po_some pe_int) po_none) (pe_tup (pa_cons (pe_tup pa_nil) (pa_cons (pe_tup pa_nil) (pa_cons (pe_tup pa_nil) (pa_cons (pe_tup (pa_cons (pe_tup (pa_cons pe_int (pa_cons pe_int pa_nil))) pa_nil)) (pa_cons (pe_tup (pa_cons (pe_tup (pa_cons pe_int (pa_cons pe_int pa_nil))) pa_nil)) pa_nil)))))) (nomark _)) (pw_or (pt_cmpR (op_neD hu64) (pe_fld (pv 10) rfl) (pe_tup pa_nil) (nomark _)) (pw_or1 (pt_cmpR (op_neD hu64) (pe_fld (pv 10) rfl) (pe_tup pa_nil) (nomark _))))))
    (pss_one (ps_ret pe_bl))
    pss_nil)
    (pss_cons (ps_set (i := 11) scLaw.nd rfl (.inl rfl) (pe_make T.MWeek GWeekInit (hr.mono (by decide)) (by rfl) T.gWeek (bWeekInit T) .nil pass0 (pa_cons pe_int (pa_cons (pe_lst (pa_cons (pe_tup (pa_cons pe_int (pa_cons pe_str (pa_cons pe_str pa_nil)))) (pa_cons (pe_tup (pa_cons pe_int (pa_cons pe_str (pa_cons pe_str pa_nil)))) pa_nil))) pa_nil))))
    (pss_cons (ps_set (i := 12) scLaw.nd rfl (.inl rfl) (pe_call GPlay (hr.mono (by decide)) (by rfl) T.gPlay T.FPlay.kp (bPlay T) .nil pass0 (pa_cons (pv 11) (pa_cons (pe_make T.MRule GRuleInit (hr.mono (by decide)) (by rfl) T.gRule b4 v4 pass0 (pa_cons pe_int (pa_cons pe_int (pa_cons (pe_lst (pa_cons pe_int (pa_cons pe_int (pa_cons pe_int pa_nil)))) (pa_cons pe_str pa_nil))))) (pa_cons (pe_lst (pa_cons pe_bl (pa_cons pe_bl (pa_cons pe_bl pa_nil)))) pa_nil)))))
    (pss_cons (ps_set (i := 13) scLaw.nd rfl (.inl rfl) (pe_call GPlay (hr.mono (by decide)) (by rfl) T.gPlay T.FPlay.kp (bPlay T) .nil pass0 (pa_cons (pv 11) (pa_cons (pe_make T.MRule GRuleInit (hr.mono (by decide)) (by rfl) T.gRule b4 v4 pass0 (pa_cons pe_int (pa_cons pe_int (pa_cons (pe_lst (pa_cons pe_int (pa_cons pe_int (pa_cons pe_int pa_nil)))) (pa_cons pe_str pa_nil))))) (pa_cons (pe_lst (pa_cons pe_bl (pa_cons pe_bl (pa_cons pe_bl pa_nil)))) pa_nil)))))
    (pss_cons (ps_if (PW.pt (pw_or (pt_cmpR (op_neD hu64) (pe_fld (pv 12) rfl) (pe_tup (pa_cons (pe_tup (pa_cons pe_int (pa_cons pe_int (pa_cons pe_int pa_nil)))) (pa_cons (pe_tup (pa_cons pe_int (pa_cons pe_int (pa_cons pe_int pa_nil)))) pa_nil))) (nomark _)) (pw_or1 (pt_cmpR (op_neD hu64) (pe_fld (pv 13) rfl) (pe_tup (pa_cons (pe_tup (pa_cons pe_int (pa_cons pe_int (pa_cons pe_int pa_nil)))) (pa_cons (pe_tup (pa_cons pe_int (pa_cons pe_int (pa_cons pe_int pa_nil)))) pa_nil))) (nomark _)))))
    (pss_one (ps_ret pe_bl))
    pss_nil)
    (pss_one (ps_if (PW.pt (pw_or (pt_cmpR (op_neD hu64) (pe_fld (pe_call GPlay (hr.mono (by decide)) (by rfl) T.gPlay T.FPlay.kp (bPlay T) .nil pass0 (pa_cons (pv 11) (pa_cons (pe_make T.MRule GRuleInit (hr.mono (by decide)) (by rfl) T.gRule b3 v3 pass0 (pa_cons pe_int (pa_cons pe_int (pa_cons (pe_lst pa_nil) pa_nil)))) (pa_cons (pe_lst (pa_cons pe_bl pa_nil)) pa_nil)))) rfl) (pe_tup (pa_cons (pe_tup (pa_cons pe_int (pa_cons pe_int (pa_cons pe_int pa_nil)))) pa_nil)) (nomark _)) (pw_or1 (pt_cmpR (op_neD hu64) (pe_fld (pe_call GPlay (hr.mono (by decide)) (by rfl) T.gPlay T.FPlay.kp (bPlay T) .nil pass0 (pa_cons (pv 11) (pa_cons (pe_make T.MRule GRuleInit (hr.mono (by decide)) (by rfl) T.gRule b3 v3 pass0 (pa_cons pe_int (pa_cons pe_int (pa_cons (pe_lst pa_nil) pa_nil)))) (pa_cons (pe_lst pa_nil) pa_nil)))) rfl) (pe_tup pa_nil) (nomark _)))))
    (pss_one (ps_ret pe_bl))
    pss_nil))))))))))))))))))))))))))
    (pss_one (ps_ret pe_bl))), ?_⟩
    have lm : (List.map V.int ns).length = ns.length := List.length_map ..
    have big : ∃ j : Int, (if (if ((List.map V.int ns).length : Int) < 3 then ((List.map V.int ns).length : Int) else 3) > 1 then (if ((List.map V.int ns).length : Int) < 3 then ((List.map V.int ns).length : Int) else 3) else 1) = j ∧ 1 ≤ j ∧ j ≤ 3 := by
      refine ⟨_, rfl, ?_, ?_⟩
      all_goals split <;> split at * <;> omega
    obtain ⟨j, ej, j1, j5⟩ := big
    have sq0 := hs.sq
    walk_at "rd"
    rw [ej]
    refine for_range (lo := 0) (n := j.toNat) (fun i σ H' => (∃ x1 x2 x3 x4 x5 x6 x7 x8 x9 x10 x11 x12 x13, σ = [some (.ref a), x1, x2, x3, x4, x5, x6, x7, x8, x9, x10, x11, x12, x13]) ∧ Scr K H' a (ns.map V.int)) ?_ ?_ ?_
    · exact ⟨⟨none, none, none, none, none, none, none, none, none, none, none, none, none, rfl⟩, hs⟩
    · rintro i σ H1 hi ⟨⟨x1, x2, x3, x4, x5, x6, x7, x8, x9, x10, x11, x12, x13, rfl⟩, s1⟩
      have sq1 := s1.sq
      walk_at "rd"
      refine ⟨a, ns, 0 + (i : Int), rfl, s1.sq, hl, by omega, by omega, fun b H2 nb hb k2 => ?_⟩
      have s2 := s1.same k2
      walk_at "rd"
      intro l0 hl0
      walk_at "rd"
      refine ⟨b, 3, rfl, by decide, by decide, hb.same (same_new hl0), fun r H3 r0 r1 hb3 k3 => ?_⟩
      have nlb : l0 ≠ b := fun e => by
        rw [e] at hl0
        exact (show H2 b ≠ none from Bx.new hb) hl0
      have e0 : H3 l0 = some (.lst [.bl false]) := k3 _ _ upd_same nlb
      have s3 := (s2.same (same_new (o := .lst [.bl false]) hl0)).kp (hb.same (same_new hl0)) k3
      obtain ⟨n, rfl⟩ := Int.eq_ofNat_of_zero_le r0
      have hn : n < 3 := by omega
      refine ⟨l0, n, _, rfl, rfl, e0, by omega, by omega, by rw [sizeLine_eq]; simp; omega, fun dl hdl => ?_⟩
      rw [show (List.replicate (n : Int).toNat [V.bl false]).flatten = (List.replicate n false).map V.bl from dry_eq n]
      have s4 := s3.same (same_new (o := .lst ((List.replicate n false).map V.bl)) hdl)
      have e4 : (upd H3 dl (.lst ((List.replicate n false).map V.bl))) dl = some (.lst ((List.replicate n false).map V.bl)) := upd_same
      generalize upd H3 dl (.lst ((List.replicate n false).map V.bl)) = H4 at s4 e4 ⊢
      dsimp only [gName]
      refine go_asg ?_
      refine mk_week (D := 3) (ms := [mAB, (0, "cyd", "dee")]) (by decide) (by decide) (by decide +kernel) (by decide +kernel) fun w4 H101 k102 o4 => ?_
      have e4 := k102 _ _ e4
      have s4 := s4.same k102
      dsimp only [gName]
      refine go_asg ?_
      refine (gv_play (K := K) (W := ⟨3, [mAB, (0, "cyd", "dee")], 1, 6, [0, 1, 2], true⟩) (bs := [true, true, false] ++ List.replicate n false) ⟨by decide, by decide, by decide, by decide, by decide, by decide, by decide⟩ (gv_varW rfl o4) (fun H' _ Q q => mk_rule3 (by decide) (by decide) (by decide) (by decide) (by decide) (by decide) (fun R k => ⟨by walk_at "cd", fun p hp => k p _ (same_new hp) (.inr (SqT.of upd_same))⟩) q) (fun H' s' => gv_cat (gv_bs (bs := [true, true, false]) (by decide)) (fun H'' s'' => gv_varB rfl (s'' _ _ (s' _ _ e4))) (by simp; omega)) (by simp; omega)) _ fun v5 H103 k104 o5 => ?_
      have e4 := k104 _ _ e4
      have s4 := s4.same k104
      have o4 := o4.same k104
      dsimp only [gName]
      refine go_if ?_
      refine go_or ?_
      refine ne_test (K := K) (d := .tuple (cutD ((playL ⟨3, [mAB, (0, "cyd", "dee")], 1, 6, [0, 1, 2], true⟩ ([true, true, false] ++ List.replicate n false)).1.map plD) (none) (some 3))) (e := .tuple ([[], [], [(0, 0), (0, 1)]].map plD)) (b := true) (gv_cut (lo := none) (hi := some 3) (gv_played T.clPlayed T.nPlayed_played (gv_varP rfl o5)) (fun _ _ r => r) (fun _ _ r => ⟨3, rfl, r⟩)) (fun H' _ => gv_pl (ps := [[], [], [(0, 0), (0, 1)]]) (by decide) (by decide)) (by rcases n with _ | _ | _ | n <;> first | decide +kernel | (exfalso; omega)) (by rcases n with _ | _ | _ | n <;> first | decide +kernel | (exfalso; omega)) (by rcases n with _ | _ | _ | n <;> first | decide +kernel | (exfalso; omega)) fun H105 k106 => ite2 (fun z => nomatch z) fun _ => ?_
      have e4 := k106 _ _ e4
      have s4 := s4.same k106
      have o4 := o4.same k106
      have o5 := o5.same k106
      refine ne_test (K := K) (d := .tuple ((playL ⟨3, [mAB, (0, "cyd", "dee")], 1, 6, [0, 1, 2], true⟩ ([true, true, false] ++ List.replicate n false)).2.1.map tD)) (e := .tuple (([] : List Wt).map tD)) (b := true) (gv_lost T.clPlayed T.nPlayed_lost (gv_varP rfl o5)) (fun H' _ => gv_wt (ps := []) (by decide)) (by rcases n with _ | _ | _ | n <;> first | decide +kernel | (exfalso; omega)) (by rcases n with _ | _ | _ | n <;> first | decide +kernel | (exfalso; omega)) (by rcases n with _ | _ | _ | n <;> first | decide +kernel | (exfalso; omega)) fun H107 k108 => ite2 (fun z => nomatch z) fun _ => ?_
      have e4 := k108 _ _ e4
      have s4 := s4.same k108
      have o4 := o4.same k108
      have o5 := o5.same k108
      refine go_next ?_
      dsimp only [gName]
      refine go_asg ?_
      refine mk_week (D := 2) (ms := [mAB]) (by decide) (by decide) (by decide +kernel) (by decide +kernel) fun w6 H109 k110 o6 => ?_
      have e4 := k110 _ _ e4
      have s4 := s4.same k110
      have o4 := o4.same k110
      have o5 := o5.same k110
      dsimp only [gName]
      refine go_asg ?_
      refine (gv_play (K := K) (W := ⟨2, [mAB], 1, 1, [1], true⟩) (bs := [true, true] ++ List.replicate n false) ⟨by decide, by decide, by decide, by decide, by decide, by decide, by decide⟩ (gv_varW rfl o6) (fun H' _ Q q => mk_rule3 (by decide) (by decide) (by decide) (by decide) (by decide) (by decide) (fun R k => ⟨by walk_at "cd", fun p hp => k p _ (same_new hp) (.inl (SqL.of upd_same))⟩) q) (fun H' s' => gv_cat (gv_bs (bs := [true, true]) (by decide)) (fun H'' s'' => gv_varB rfl (s'' _ _ (s' _ _ e4))) (by simp; omega)) (by simp; omega)) _ fun v5 H111 k112 o5 => ?_
      have e4 := k112 _ _ e4
      have s4 := s4.same k112
      have o4 := o4.same k112
      have o6 := o6.same k112
      dsimp only [gName]
      refine go_if ?_
      refine go_or ?_
      refine ne_test (K := K) (d := .tuple ((playL ⟨2, [mAB], 1, 1, [1], true⟩ ([true, true] ++ List.replicate n false)).2.1.map tD)) (e := .tuple ([(1, 0, 0)].map tD)) (b := true) (gv_lost T.clPlayed T.nPlayed_lost (gv_varP rfl o5)) (fun H' _ => gv_wt (ps := [(1, 0, 0)]) (by decide)) (by rcases n with _ | _ | _ | n <;> first | decide +kernel | (exfalso; omega)) (by rcases n with _ | _ | _ | n <;> first | decide +kernel | (exfalso; omega)) (by rcases n with _ | _ | _ | n <;> first | decide +kernel | (exfalso; omega)) fun H113 k114 => ite2 (fun z => nomatch z) fun _ => ?_
      have e4 := k114 _ _ e4
      have s4 := s4.same k114
      have o4 := o4.same k114
      have o6 := o6.same k114
      have o5 := o5.same k114
      refine ne_test (K := K) (d := .tuple (cutD ((playL ⟨2, [mAB], 1, 1, [1], true⟩ ([true, true] ++ List.replicate n false)).1.map plD) (none) (some 2))) (e := .tuple ([[], []].map plD)) (b := true) (gv_cut (lo := none) (hi := some 2) (gv_played T.clPlayed T.nPlayed_played (gv_varP rfl o5)) (fun _ _ r => r) (fun _ _ r => ⟨2, rfl, r⟩)) (fun H' _ => gv_pl (ps := [[], []]) (by decide) (by decide)) (by rcases n with _ | _ | _ | n <;> first | decide +kernel | (exfalso; omega)) (by rcases n with _ | _ | _ | n <;> first | decide +kernel | (exfalso; omega)) (by rcases n with _ | _ | _ | n <;> first | decide +kernel | (exfalso; omega)) fun H115 k116 => ite2 (fun z => nomatch z) fun _ => ?_
      have e4 := k116 _ _ e4
      have s4 := s4.same k116
      have o4 := o4.same k116
      have o6 := o6.same k116
      have o5 := o5.same k116
      refine go_next ?_
      dsimp only [gName]
      refine go_asg ?_
      refine (gv_play (K := K) (W := ⟨2, [mAB], 2, 6, [0, 1], true⟩) (bs := [true]) ⟨by decide, by decide, by decide, by decide, by decide, by decide, by decide⟩ (gv_varW rfl o6) (fun H' _ Q q => mk_rule3 (by decide) (by decide) (by decide) (by decide) (by decide) (by decide) (fun R k => ⟨by walk_at "cd", fun p hp => k p _ (same_new hp) (.inl (SqL.of upd_same))⟩) q) (fun H' s' => gv_bs (bs := [true]) (by decide)) (by decide)) _ fun v5 H117 k118 o5 => ?_
      have e4 := k118 _ _ e4
      have s4 := s4.same k118
      have o4 := o4.same k118
      have o6 := o6.same k118
      dsimp only [gName]
      refine go_if ?_
      refine go_or ?_
      refine ne_test (K := K) (d := .tuple ((playL ⟨2, [mAB], 2, 6, [0, 1], true⟩ ([true])).2.1.map tD)) (e := .tuple ([(0, 0, 0)].map tD)) (b := true) (gv_lost T.clPlayed T.nPlayed_lost (gv_varP rfl o5)) (fun H' _ => gv_wt (ps := [(0, 0, 0)]) (by decide)) (by decide +kernel) (by decide +kernel) (by decide +kernel) fun H119 k120 => ite2 (fun z => nomatch z) fun _ => ?_
      have e4 := k120 _ _ e4
      have s4 := s4.same k120
      have o4 := o4.same k120
      have o6 := o6.same k120
      have o5 := o5.same k120
      refine ne_test (K := K) (d := .tuple ((playL ⟨2, [mAB], 2, 6, [0, 1], true⟩ ([true])).2.2.map tD)) (e := .tuple (([] : List Wt).map tD)) (b := true) (gv_waiting T.clPlayed T.nPlayed_waiting (gv_varP rfl o5)) (fun H' _ => gv_wt (ps := []) (by decide)) (by decide +kernel) (by decide +kernel) (by decide +kernel) fun H121 k122 => ite2 (fun z => nomatch z) fun _ => ?_
      have e4 := k122 _ _ e4
      have s4 := s4.same k122
      have o4 := o4.same k122
      have o6 := o6.same k122
      have o5 := o5.same k122
      refine go_next ?_
      dsimp only [gName]
      refine go_asg ?_
      refine (gv_play (K := K) (W := ⟨2, [mAB], 1, 3, [1], true⟩) (bs := [true, true, true, false]) ⟨by decide, by decide, by decide, by decide, by decide, by decide, by decide⟩ (gv_varW rfl o6) (fun H' _ Q q => mk_rule3 (by decide) (by decide) (by decide) (by decide) (by decide) (by decide) (fun R k => ⟨by walk_at "cd", fun p hp => k p _ (same_new hp) (.inl (SqL.of upd_same))⟩) q) (fun H' s' => gv_bs (bs := [true, true, true, false]) (by decide)) (by decide)) _ fun v5 H123 k124 o5 => ?_
      have e4 := k124 _ _ e4
      have s4 := s4.same k124
      have o4 := o4.same k124
      have o6 := o6.same k124
      dsimp only [gName]
      refine go_if ?_
      refine go_or ?_
      refine ne_test (K := K) (d := .tuple ((playL ⟨2, [mAB], 1, 3, [1], true⟩ ([true, true, true, false])).1.map plD)) (e := .tuple ([[], [], [], [(0, 0)]].map plD)) (b := true) (gv_played T.clPlayed T.nPlayed_played (gv_varP rfl o5)) (fun H' _ => gv_pl (ps := [[], [], [], [(0, 0)]]) (by decide) (by decide)) (by decide +kernel) (by decide +kernel) (by decide +kernel) fun H125 k126 => ite2 (fun z => nomatch z) fun _ => ?_
      have e4 := k126 _ _ e4
      have s4 := s4.same k126
      have o4 := o4.same k126
      have o6 := o6.same k126
      have o5 := o5.same k126
      refine go_or ?_
      refine ne_test (K := K) (d := .tuple ((playL ⟨2, [mAB], 1, 3, [1], true⟩ ([true, true, true, false])).2.1.map tD)) (e := .tuple (([] : List Wt).map tD)) (b := true) (gv_lost T.clPlayed T.nPlayed_lost (gv_varP rfl o5)) (fun H' _ => gv_wt (ps := []) (by decide)) (by decide +kernel) (by decide +kernel) (by decide +kernel) fun H127 k128 => ite2 (fun z => nomatch z) fun _ => ?_
      have e4 := k128 _ _ e4
      have s4 := s4.same k128
      have o4 := o4.same k128
      have o6 := o6.same k128
      have o5 := o5.same k128
      refine ne_test (K := K) (d := .tuple ((playL ⟨2, [mAB], 1, 3, [1], true⟩ ([true, true, true, false])).2.2.map tD)) (e := .tuple ([(5, 2, 0)].map tD)) (b := true) (gv_waiting T.clPlayed T.nPlayed_waiting (gv_varP rfl o5)) (fun H' _ => gv_wt (ps := [(5, 2, 0)]) (by decide)) (by decide +kernel) (by decide +kernel) (by decide +kernel) fun H129 k130 => ite2 (fun z => nomatch z) fun _ => ?_
      have e4 := k130 _ _ e4
      have s4 := s4.same k130
      have o4 := o4.same k130
      have o6 := o6.same k130
      have o5 := o5.same k130
      refine go_next ?_
      dsimp only [gName]
      refine go_asg ?_
      refine mk_week (D := 4) (ms := [mAB, (1, "ann", "cyd")]) (by decide) (by decide) (by decide +kernel) (by decide +kernel) fun w7 H131 k132 o7 => ?_
      have e4 := k132 _ _ e4
      have s4 := s4.same k132
      have o4 := o4.same k132
      have o6 := o6.same k132
      have o5 := o5.same k132
      dsimp only [gName]
      refine go_asg ?_
      refine (gv_play (K := K) (W := ⟨4, [mAB, (1, "ann", "cyd")], 1, 6, [2, 3], true⟩) (bs := [true, true, false, false]) ⟨by decide, by decide, by decide, by decide, by decide, by decide, by decide⟩ (gv_varW rfl o7) (fun H' _ Q q => mk_rule3 (by decide) (by decide) (by decide) (by decide) (by decide) (by decide) (fun R k => ⟨by walk_at "cd", fun p hp => k p _ (same_new hp) (.inl (SqL.of upd_same))⟩) q) (fun H' s' => gv_bs (bs := [true, true, false, false]) (by decide)) (by decide)) _ fun v5 H133 k134 o5 => ?_
      have e4 := k134 _ _ e4
      have s4 := s4.same k134
      have o4 := o4.same k134
      have o6 := o6.same k134
      have o7 := o7.same k134
      dsimp only [gName]
      refine go_if ?_
      refine go_or ?_
      refine ne_test (K := K) (d := .tuple ((playL ⟨4, [mAB, (1, "ann", "cyd")], 1, 6, [2, 3], true⟩ ([true, true, false, false])).1.map plD)) (e := .tuple ([[], [], [(0, 0)], [(1, 1)]].map plD)) (b := true) (gv_played T.clPlayed T.nPlayed_played (gv_varP rfl o5)) (fun H' _ => gv_pl (ps := [[], [], [(0, 0)], [(1, 1)]]) (by decide) (by decide)) (by decide +kernel) (by decide +kernel) (by decide +kernel) fun H135 k136 => ite2 (fun z => nomatch z) fun _ => ?_
      have e4 := k136 _ _ e4
      have s4 := s4.same k136
      have o4 := o4.same k136
      have o6 := o6.same k136
      have o7 := o7.same k136
      have o5 := o5.same k136
      refine ne_test (K := K) (d := .tuple ((playL ⟨4, [mAB, (1, "ann", "cyd")], 1, 6, [2, 3], true⟩ ([true, true, false, false])).2.1.map tD)) (e := .tuple (([] : List Wt).map tD)) (b := true) (gv_lost T.clPlayed T.nPlayed_lost (gv_varP rfl o5)) (fun H' _ => gv_wt (ps := []) (by decide)) (by decide +kernel) (by decide +kernel) (by decide +kernel) fun H137 k138 => ite2 (fun z => nomatch z) fun _ => ?_
      have e4 := k138 _ _ e4
      have s4 := s4.same k138
      have o4 := o4.same k138
      have o6 := o6.same k138
      have o7 := o7.same k138
      have o5 := o5.same k138
      refine go_next ?_
      dsimp only [gName]
      refine go_asg ?_
      refine mk_week (D := 5) (ms := [mAB, (1, "ann", "cyd")]) (by decide) (by decide) (by decide +kernel) (by decide +kernel) fun w8 H139 k140 o8 => ?_
      have e4 := k140 _ _ e4
      have s4 := s4.same k140
      have o4 := o4.same k140
      have o6 := o6.same k140
      have o7 := o7.same k140
      have o5 := o5.same k140
      dsimp only [gName]
      refine ⟨by walk_at "cd", fun p9 hp9 => ⟨p9, rfl, ⟨_, SqT.of upd_same⟩, for_it (walk_tup (K := K) (a := p9) (xs := [.str "first", .str "last"])) (fun i9 σ H' => Same (upd H139 p9 (.tup [.str "first", .str "last"])) H' ∧ ∃ x5 x9, σ = [some (.ref a), some (.int (0 + (i : Int))), some (.ref b), some (.ref dl), some (.ref w4), x5, some (.ref w6), some (.ref w7), some (.ref w8), x9, x10, x11, x12, x13]) ⟨Same.refl _, _, _, rfl⟩ (fun i9 σ H' _ q => SqT.of (q.1 _ _ upd_same)) (fun i9 x σ H20 H21 hi9 pv y => ?_) (fun σ H20 pv => ?_)⟩⟩
      · obtain ⟨k20, y5, y9, rfl⟩ := pv
        obtain ⟨rfl, hx9⟩ := y
        have k21 := (same_new (o := .tup [.str "first", .str "last"]) hp9).trans k20
        rcases i9 with _ | _ | i9
        · cases hx9
          have e4 := k21 _ _ e4
          have s4 := s4.same k21
          have o8 := o8.same k21
          dsimp only [gName]
          refine go_asg ?_
          refine (gv_play (K := K) (W := ⟨5, [mAB, (1, "ann", "cyd")], 1, 4, [2, 3, 4], true⟩) (bs := [true, true]) ⟨by decide, by decide, by decide, by decide, by decide, by decide, by decide⟩ (gv_varW rfl o8) (fun H' _ Q q => mk_rule4 (by decide) (by decide) (by decide) (by decide) (by decide) (by decide) (fun R k => ⟨by walk_at "cd", fun p hp => ⟨_, rfl, k p _ (same_new hp) (.inl (SqL.of upd_same))⟩⟩) q) (fun H' s' => gv_bs (bs := [true, true]) (by decide)) (by decide)) _ fun v5 H141 k142 o5 => ?_
          have e4 := k142 _ _ e4
          have s4 := s4.same k142
          have o8 := o8.same k142
          dsimp only [gName]
          refine go_ifL ?_
          refine ne_test (K := K) (d := .tuple ((playL ⟨5, [mAB, (1, "ann", "cyd")], 1, 4, [2, 3, 4], true⟩ ([true, true])).2.2.map tD)) (e := .tuple ([(2, 0, 0), (3, 1, 1)].map tD)) (b := true) (gv_waiting T.clPlayed T.nPlayed_waiting (gv_varP rfl o5)) (fun H' _ => gv_wt (ps := [(2, 0, 0), (3, 1, 1)]) (by decide)) (by decide +kernel) (by decide +kernel) (by decide +kernel) fun H143 k144 => ite2 (fun z => nomatch z) fun _ => ?_
          have e4 := k144 _ _ e4
          have s4 := s4.same k144
          have o8 := o8.same k144
          have o5 := o5.same k144
          refine go_next ?_
          exact ⟨((k20.trans k142).trans k144), _, _, rfl⟩
        · cases hx9
          have e4 := k21 _ _ e4
          have s4 := s4.same k21
          have o8 := o8.same k21
          dsimp only [gName]
          refine go_asg ?_
          refine (gv_play (K := K) (W := ⟨5, [mAB, (1, "ann", "cyd")], 1, 4, [2, 3, 4], false⟩) (bs := [true, true]) ⟨by decide, by decide, by decide, by decide, by decide, by decide, by decide⟩ (gv_varW rfl o8) (fun H' _ Q q => mk_rule4 (by decide) (by decide) (by decide) (by decide) (by decide) (by decide) (fun R k => ⟨by walk_at "cd", fun p hp => ⟨_, rfl, k p _ (same_new hp) (.inl (SqL.of upd_same))⟩⟩) q) (fun H' s' => gv_bs (bs := [true, true]) (by decide)) (by decide)) _ fun v5 H145 k146 o5 => ?_
          have e4 := k146 _ _ e4
          have s4 := s4.same k146
          have o8 := o8.same k146
          dsimp only [gName]
          refine go_ifL ?_
          refine ne_test (K := K) (d := .tuple ((playL ⟨5, [mAB, (1, "ann", "cyd")], 1, 4, [2, 3, 4], false⟩ ([true, true])).2.2.map tD)) (e := .tuple ([(2, 0, 0), (3, 1, 1)].map tD)) (b := true) (gv_waiting T.clPlayed T.nPlayed_waiting (gv_varP rfl o5)) (fun H' _ => gv_wt (ps := [(2, 0, 0), (3, 1, 1)]) (by decide)) (by decide +kernel) (by decide +kernel) (by decide +kernel) fun H147 k148 => ite2 (fun z => nomatch z) fun _ => ?_
          have e4 := k148 _ _ e4
          have s4 := s4.same k148
          have o8 := o8.same k148
          have o5 := o5.same k148
          refine go_next ?_
          exact ⟨((k20.trans k146).trans k148), _, _, rfl⟩
        · exact absurd hx9 (by simp)
      obtain ⟨k20, y5, y9, rfl⟩ := pv
      have k21 := (same_new (o := .tup [.str "first", .str "last"]) hp9).trans k20
      have e4 := k21 _ _ e4
      have s4 := s4.same k21
      dsimp only [gName]
      refine go_asg ?_
      refine (gv_play (K := K) (W := ⟨5, [mAB], 1, 6, [1], true⟩) (bs := [true, true] ++ List.replicate 5 false) ⟨by decide, by decide, by decide, by decide, by decide, by decide, by decide⟩ (fun Q q => mk_week (D := 5) (ms := [mAB]) (by decide) (by decide) (by decide +kernel) (by decide +kernel) q) (fun H' _ Q q => mk_rule3 (by decide) (by decide) (by decide) (by decide) (by decide) (by decide) (fun R k => ⟨by walk_at "cd", fun p hp => k p _ (same_new hp) (.inl (SqL.of upd_same))⟩) q) (fun H' s' => gv_cat (gv_bs (bs := [true, true]) (by decide)) (fun H'' s'' => gv_rep (b := false) (n := 5) (by decide)) (by decide)) (by decide)) _ fun v10 H149 k150 o10 => ?_
      have e4 := k150 _ _ e4
      have s4 := s4.same k150
      dsimp only [gName]
      refine go_if ?_
      refine go_or ?_
      refine ne_test (K := K) (d := .tuple (cutD ((playL ⟨5, [mAB], 1, 6, [1], true⟩ ([true, true] ++ List.replicate 5 false)).1.map plD) (some 2) (none))) (e := .tuple ([[], [], [], [(5, 0)], [(0, 0)]].map plD)) (b := true) (gv_cut (lo := some 2) (hi := none) (gv_played T.clPlayed T.nPlayed_played (gv_varP rfl o10)) (fun _ _ r => ⟨2, rfl, r⟩) (fun _ _ r => r)) (fun H' _ => gv_pl (ps := [[], [], [], [(5, 0)], [(0, 0)]]) (by decide) (by decide)) (by decide +kernel) (by decide +kernel) (by decide +kernel) fun H151 k152 => ite2 (fun z => nomatch z) fun _ => ?_
      have e4 := k152 _ _ e4
      have s4 := s4.same k152
      have o10 := o10.same k152
      refine go_or ?_
      refine ne_test (K := K) (d := .tuple ((playL ⟨5, [mAB], 1, 6, [1], true⟩ ([true, true] ++ List.replicate 5 false)).2.1.map tD)) (e := .tuple (([] : List Wt).map tD)) (b := true) (gv_lost T.clPlayed T.nPlayed_lost (gv_varP rfl o10)) (fun H' _ => gv_wt (ps := []) (by decide)) (by decide +kernel) (by decide +kernel) (by decide +kernel) fun H153 k154 => ite2 (fun z => nomatch z) fun _ => ?_
      have e4 := k154 _ _ e4
      have s4 := s4.same k154
      have o10 := o10.same k154
      refine ne_test (K := K) (d := .tuple ((playL ⟨5, [mAB], 1, 6, [1], true⟩ ([true, true] ++ List.replicate 5 false)).2.2.map tD)) (e := .tuple (([] : List Wt).map tD)) (b := true) (gv_waiting T.clPlayed T.nPlayed_waiting (gv_varP rfl o10)) (fun H' _ => gv_wt (ps := []) (by decide)) (by decide +kernel) (by decide +kernel) (by decide +kernel) fun H155 k156 => ite2 (fun z => nomatch z) fun _ => ?_
      have e4 := k156 _ _ e4
      have s4 := s4.same k156
      have o10 := o10.same k156
      refine go_next ?_
      dsimp only [gName]
      refine go_asg ?_
      refine mk_week (D := 4) (ms := [mAB, (1, "ann", "cyd")]) (by decide) (by decide) (by decide +kernel) (by decide +kernel) fun w11 H157 k158 o11 => ?_
      have e4 := k158 _ _ e4
      have s4 := s4.same k158
      dsimp only [gName]
      refine go_asg ?_
      refine (gv_play (K := K) (W := ⟨4, [mAB, (1, "ann", "cyd")], 1, 6, [1, 2, 3], true⟩) (bs := [true, true, true]) ⟨by decide, by decide, by decide, by decide, by decide, by decide, by decide⟩ (gv_varW rfl o11) (fun H' _ Q q => mk_rule4 (by decide) (by decide) (by decide) (by decide) (by decide) (by decide) (fun R k => ⟨by walk_at "cd", fun p hp => k p _ (same_new hp) (.inl (SqL.of upd_same))⟩) q) (fun H' s' => gv_bs (bs := [true, true, true]) (by decide)) (by decide)) _ fun v12 H159 k160 o12 => ?_
      have e4 := k160 _ _ e4
      have s4 := s4.same k160
      have o11 := o11.same k160
      dsimp only [gName]
      refine go_asg ?_
      refine (gv_play (K := K) (W := ⟨4, [mAB, (1, "ann", "cyd")], 1, 6, [1, 2, 3], false⟩) (bs := [true, true, true]) ⟨by decide, by decide, by decide, by decide, by decide, by decide, by decide⟩ (gv_varW rfl o11) (fun H' _ Q q => mk_rule4 (by decide) (by decide) (by decide) (by decide) (by decide) (by decide) (fun R k => ⟨by walk_at "cd", fun p hp => k p _ (same_new hp) (.inl (SqL.of upd_same))⟩) q) (fun H' s' => gv_bs (bs := [true, true, true]) (by decide)) (by decide)) _ fun v13 H161 k162 o13 => ?_
      have e4 := k162 _ _ e4
      have s4 := s4.same k162
      have o11 := o11.same k162
      have o12 := o12.same k162
      dsimp only [gName]
      refine go_if ?_
      refine go_or ?_
      refine ne_test (K := K) (d := .tuple ((playL ⟨4, [mAB, (1, "ann", "cyd")], 1, 6, [1, 2, 3], true⟩ ([true, true, true])).2.2.map tD)) (e := .tuple ([(3, 1, 1), (6, 0, 0)].map tD)) (b := true) (gv_waiting T.clPlayed T.nPlayed_waiting (gv_varP rfl o12)) (fun H' _ => gv_wt (ps := [(3, 1, 1), (6, 0, 0)]) (by decide)) (by decide +kernel) (by decide +kernel) (by decide +kernel) fun H163 k164 => ite2 (fun z => nomatch z) fun _ => ?_
      have e4 := k164 _ _ e4
      have s4 := s4.same k164
      have o11 := o11.same k164
      have o12 := o12.same k164
      have o13 := o13.same k164
      refine ne_test (K := K) (d := .tuple ((playL ⟨4, [mAB, (1, "ann", "cyd")], 1, 6, [1, 2, 3], false⟩ ([true, true, true])).2.2.map tD)) (e := .tuple ([(3, 1, 1), (6, 0, 0)].map tD)) (b := true) (gv_waiting T.clPlayed T.nPlayed_waiting (gv_varP rfl o13)) (fun H' _ => gv_wt (ps := [(3, 1, 1), (6, 0, 0)]) (by decide)) (by decide +kernel) (by decide +kernel) (by decide +kernel) fun H165 k166 => ite2 (fun z => nomatch z) fun _ => ?_
      have e4 := k166 _ _ e4
      have s4 := s4.same k166
      have o11 := o11.same k166
      have o12 := o12.same k166
      have o13 := o13.same k166
      refine go_next ?_
      dsimp only [gName]
      refine go_ifL ?_
      refine go_or ?_
      refine ne_test (K := K) (d := .tuple ((playL ⟨4, [mAB, (1, "ann", "cyd")], 1, 6, [], true⟩ ([true])).2.1.map tD)) (e := .tuple ([(0, 0, 0)].map tD)) (b := true) (gv_lost T.clPlayed T.nPlayed_lost ((gv_play (K := K) (W := ⟨4, [mAB, (1, "ann", "cyd")], 1, 6, [], true⟩) (bs := [true]) ⟨by decide, by decide, by decide, by decide, by decide, by decide, by decide⟩ (gv_varW rfl o11) (fun H' _ Q q => mk_rule3 (by decide) (by decide) (by decide) (by decide) (by decide) (by decide) (fun R k => ⟨by walk_at "cd", fun p hp => k p _ (same_new hp) (.inl (SqL.of upd_same))⟩) q) (fun H' s' => gv_bs (bs := [true]) (by decide)) (by decide)))) (fun H' _ => gv_wt (ps := [(0, 0, 0)]) (by decide)) (by decide +kernel) (by decide +kernel) (by decide +kernel) fun H167 k168 => ite2 (fun z => nomatch z) fun _ => ?_
      have e4 := k168 _ _ e4
      have s4 := s4.same k168
      have o11 := o11.same k168
      have o12 := o12.same k168
      have o13 := o13.same k168
      refine ne_test (K := K) (d := .tuple ((playL ⟨4, [mAB, (1, "ann", "cyd")], 1, 6, [], true⟩ ([])).1.map plD)) (e := .tuple (([] : List (List (Int × Int))).map plD)) (b := true) (gv_played T.clPlayed T.nPlayed_played ((gv_play (K := K) (W := ⟨4, [mAB, (1, "ann", "cyd")], 1, 6, [], true⟩) (bs := []) ⟨by decide, by decide, by decide, by decide, by decide, by decide, by decide⟩ (gv_varW rfl o11) (fun H' _ Q q => mk_rule3 (by decide) (by decide) (by decide) (by decide) (by decide) (by decide) (fun R k => ⟨by walk_at "cd", fun p hp => k p _ (same_new hp) (.inl (SqL.of upd_same))⟩) q) (fun H' s' => gv_bs (bs := []) (by decide)) (by decide)))) (fun H' _ => gv_pl (ps := []) (by decide) (by decide)) (by decide +kernel) (by decide +kernel) (by decide +kernel) fun H169 k170 => ite2 (fun z => nomatch z) fun _ => ?_
      have e4 := k170 _ _ e4
      have s4 := s4.same k170
      have o11 := o11.same k170
      have o12 := o12.same k170
      have o13 := o13.same k170
      refine go_next ?_
      exact ⟨⟨_, _, _, _, _, _, _, _, _, _, _, _, _, rfl⟩, s4⟩
    · exact fun σ H1 _ => q H1
end
theorem ok_lawG {P : Program} {w : World} {K : PySem.W.Frag} {mg : Str → Option Value} {base : Heap} (T : Txt K mg) : FnG P w K mg base CX0 8 T.fLaw T.fdLaw ["_law_script"] (spLaw K) := ofOk (ok_law T)
theorem bnd_law {K : PySem.W.Frag} {f : Addr} {fd : FuncData} (F : Fun K "law" "law" sLaw f fd) (s : Shared) (v : Value) : BindsTo s fd ⟨[v], []⟩ [("_law_script", v)] := by
  obtain ⟨_, _, _, _, _, _, _, _, _, rfl, _, _⟩ := F.ex
  exact .of_eq rfl
theorem fin {l : PySem.W.OpenLaw} {w : World} {K : PySem.W.Frag} {h : Heap} {mg : Str → Option Value} {fa : Addr} (X : K.In h) (G : h.Ns mainGlobals mg) (hfa : mg "law" = some (.ref fa))
    {CPlayed : Addr}
    {CWeek : Addr}
    {CRule : Addr}
    {fIsIntegerFrom : Addr} {odIsIntegerFrom anIsIntegerFrom : Option Addr} {slIsIntegerFrom : Array (Option Value)} {ocIsIntegerFrom kVIsIntegerFrom dcIsIntegerFrom pmIsIntegerFrom cdIsIntegerFrom ctIsIntegerFrom : Value}
    {fIsNumber : Addr} {odIsNumber anIsNumber : Option Addr} {slIsNumber : Array (Option Value)} {ocIsNumber kVIsNumber dcIsNumber pmIsNumber cdIsNumber ctIsNumber : Value}
    {fIsSequence : Addr} {odIsSequence anIsSequence : Option Addr} {slIsSequence : Array (Option Value)} {ocIsSequence kVIsSequence dcIsSequence pmIsSequence cdIsSequence ctIsSequence : Value}
    {fIsName : Addr} {odIsName anIsName : Option Addr} {slIsName : Array (Option Value)} {ocIsName kVIsName dcIsName pmIsName cdIsName ctIsName : Value}
    {fAsRain : Addr} {odAsRain anAsRain : Option Addr} {slAsRain : Array (Option Value)} {ocAsRain kVAsRain dcAsRain pmAsRain cdAsRain ctAsRain : Value}
    {fPlayedInit : Addr} {odPlayedInit anPlayedInit : Option Addr} {slPlayedInit : Array (Option Value)} {ocPlayedInit kVPlayedInit dcPlayedInit pmPlayedInit cdPlayedInit ctPlayedInit : Value}
    {fPlay : Addr} {odPlay anPlay : Option Addr} {slPlay : Array (Option Value)} {ocPlay kVPlay dcPlay pmPlay cdPlay ctPlay : Value}
    {fPlayDay : Addr} {odPlayDay anPlayDay : Option Addr} {slPlayDay : Array (Option Value)} {ocPlayDay kVPlayDay dcPlayDay pmPlayDay cdPlayDay ctPlayDay : Value}
    {fPutOff : Addr} {odPutOff anPutOff : Option Addr} {slPutOff : Array (Option Value)} {ocPutOff kVPutOff dcPutOff pmPutOff cdPutOff ctPutOff : Value}
    {fNewDay : Addr} {odNewDay anNewDay : Option Addr} {slNewDay : Array (Option Value)} {ocNewDay kVNewDay dcNewDay pmNewDay cdNewDay ctNewDay : Value}
    {fMatchesNear : Addr} {odMatchesNear anMatchesNear : Option Addr} {slMatchesNear : Array (Option Value)} {ocMatchesNear kVMatchesNear dcMatchesNear pmMatchesNear cdMatchesNear ctMatchesNear : Value}
    {fIsBarred : Addr} {odIsBarred anIsBarred : Option Addr} {slIsBarred : Array (Option Value)} {ocIsBarred kVIsBarred dcIsBarred pmIsBarred cdIsBarred ctIsBarred : Value}
    {fRuleInit : Addr} {odRuleInit anRuleInit : Option Addr} {slRuleInit : Array (Option Value)} {ocRuleInit kVRuleInit dcRuleInit pmRuleInit cdRuleInit ctRuleInit : Value}
    {dVRuleInit : Addr} {dWRuleInit : Option Addr} {dNRuleInit : Nat} {dSRuleInit : Array (Option Value)} {dTRuleInit0 : Tok}
    {fWeekInit : Addr} {odWeekInit anWeekInit : Option Addr} {slWeekInit : Array (Option Value)} {ocWeekInit kVWeekInit dcWeekInit pmWeekInit cdWeekInit ctWeekInit : Value}
    {fWeekOn : Addr} {odWeekOn anWeekOn : Option Addr} {slWeekOn : Array (Option Value)} {ocWeekOn kVWeekOn dcWeekOn pmWeekOn cdWeekOn ctWeekOn : Value}
    {fAreMatches : Addr} {odAreMatches anAreMatches : Option Addr} {slAreMatches : Array (Option Value)} {ocAreMatches kVAreMatches dcAreMatches pmAreMatches cdAreMatches ctAreMatches : Value}
    {fIsMatch : Addr} {odIsMatch anIsMatch : Option Addr} {slIsMatch : Array (Option Value)} {ocIsMatch kVIsMatch dcIsMatch pmIsMatch cdIsMatch ctIsMatch : Value}
    {fBox : Addr} {odBox anBox : Option Addr} {slBox : Array (Option Value)} {ocBox kVBox dcBox pmBox cdBox ctBox : Value}
    {fTake : Addr} {odTake anTake : Option Addr} {slTake : Array (Option Value)} {ocTake kVTake dcTake pmTake cdTake ctTake : Value}
    {fLaw : Addr} {odLaw anLaw : Option Addr} {slLaw : Array (Option Value)} {ocLaw kVLaw dcLaw pmLaw cdLaw ctLaw : Value}
    {aORDERS : Addr} {ddORDERS : Option Addr} {nORDERS : Nat} {slORDERS : Array (Option Value)} {tORDERS0 : Tok} {tORDERS1 : Tok}
    {kLETTERS : Tok}
    (ARule : PySem.W.nsIn K mainGlobals "Rule" = some (some (.ref CRule)))
    (pgRule : PySem.W.plainGet K CRule Str.empty = true)
    (hdRule : PySem.W.hasDictIn K CRule = true)
    (poRule : PySem.W.plainOver K CRule = true)
    (saRule : PySem.W.findIn K (.ref CRule) "__setattr__" = some (some (.builtin "object.__setattr__")))
    (mkRule : PySem.W.makesIn K CRule = true)
    (kcRule : PySem.W.keepIn K (.ref CRule) = true)
    (nRule_gap : PySem.W.findIn K (.ref CRule) "gap" = some none)
    (nRule_window : PySem.W.findIn K (.ref CRule) "window" = some none)
    (nRule_let : PySem.W.findIn K (.ref CRule) "let" = some none)
    (nRule_order : PySem.W.findIn K (.ref CRule) "order" = some none)
    (AWeek : PySem.W.nsIn K mainGlobals "Week" = some (some (.ref CWeek)))
    (pgWeek : PySem.W.plainGet K CWeek Str.empty = true)
    (hdWeek : PySem.W.hasDictIn K CWeek = true)
    (poWeek : PySem.W.plainOver K CWeek = true)
    (saWeek : PySem.W.findIn K (.ref CWeek) "__setattr__" = some (some (.builtin "object.__setattr__")))
    (mkWeek : PySem.W.makesIn K CWeek = true)
    (kcWeek : PySem.W.keepIn K (.ref CWeek) = true)
    (nWeek_days : PySem.W.findIn K (.ref CWeek) "days" = some none)
    (nWeek_matches : PySem.W.findIn K (.ref CWeek) "matches" = some none)
    (APlayed : PySem.W.nsIn K mainGlobals "Played" = some (some (.ref CPlayed)))
    (pgPlayed : PySem.W.plainGet K CPlayed Str.empty = true)
    (hdPlayed : PySem.W.hasDictIn K CPlayed = true)
    (poPlayed : PySem.W.plainOver K CPlayed = true)
    (saPlayed : PySem.W.findIn K (.ref CPlayed) "__setattr__" = some (some (.builtin "object.__setattr__")))
    (mkPlayed : PySem.W.makesIn K CPlayed = true)
    (kcPlayed : PySem.W.keepIn K (.ref CPlayed) = true)
    (nPlayed_played : PySem.W.findIn K (.ref CPlayed) "played" = some none)
    (nPlayed_lost : PySem.W.findIn K (.ref CPlayed) "lost" = some none)
    (nPlayed_waiting : PySem.W.findIn K (.ref CPlayed) "waiting" = some none)
    (AORDERS : PySem.W.nsIn K mainGlobals "ORDERS" = some (some (.ref aORDERS)))
    (BORDERS : K.lookup aORDERS = some ⟨.type "tuple", ddORDERS, .seq #[.str "first" tORDERS0, .str "last" tORDERS1] nORDERS, slORDERS⟩)
    (aIsIntegerFrom : PySem.W.nsIn K mainGlobals "is_integer_from" = some (some (.ref fIsIntegerFrom)))
    (lIsIntegerFrom : K.lookup fIsIntegerFrom = some ⟨ocIsIntegerFrom, odIsIntegerFrom, .func (PySem.W.fnOf "is_integer_from" "is_integer_from" (defArgs sIsIntegerFrom) (defBody sIsIntegerFrom) (defScope sIsIntegerFrom) .none kVIsIntegerFrom dcIsIntegerFrom pmIsIntegerFrom anIsIntegerFrom cdIsIntegerFrom ctIsIntegerFrom), slIsIntegerFrom⟩)
    (cIsIntegerFrom : PySem.W.codeIn K cdIsIntegerFrom "is_integer_from" = true)
    (kIsIntegerFrom : PySem.W.keepIn K (.ref fIsIntegerFrom) = true)
    (aIsNumber : PySem.W.nsIn K mainGlobals "is_number" = some (some (.ref fIsNumber)))
    (lIsNumber : K.lookup fIsNumber = some ⟨ocIsNumber, odIsNumber, .func (PySem.W.fnOf "is_number" "is_number" (defArgs sIsNumber) (defBody sIsNumber) (defScope sIsNumber) .none kVIsNumber dcIsNumber pmIsNumber anIsNumber cdIsNumber ctIsNumber), slIsNumber⟩)
    (cIsNumber : PySem.W.codeIn K cdIsNumber "is_number" = true)
    (kIsNumber : PySem.W.keepIn K (.ref fIsNumber) = true)
    (aIsSequence : PySem.W.nsIn K mainGlobals "is_sequence" = some (some (.ref fIsSequence)))
    (lIsSequence : K.lookup fIsSequence = some ⟨ocIsSequence, odIsSequence, .func (PySem.W.fnOf "is_sequence" "is_sequence" (defArgs sIsSequence) (defBody sIsSequence) (defScope sIsSequence) .none kVIsSequence dcIsSequence pmIsSequence anIsSequence cdIsSequence ctIsSequence), slIsSequence⟩)
    (cIsSequence : PySem.W.codeIn K cdIsSequence "is_sequence" = true)
    (kIsSequence : PySem.W.keepIn K (.ref fIsSequence) = true)
    (aIsName : PySem.W.nsIn K mainGlobals "is_name" = some (some (.ref fIsName)))
    (lIsName : K.lookup fIsName = some ⟨ocIsName, odIsName, .func (PySem.W.fnOf "is_name" "is_name" (defArgs sIsName) (defBody sIsName) (defScope sIsName) .none kVIsName dcIsName pmIsName anIsName cdIsName ctIsName), slIsName⟩)
    (cIsName : PySem.W.codeIn K cdIsName "is_name" = true)
    (kIsName : PySem.W.keepIn K (.ref fIsName) = true)
    (aAsRain : PySem.W.nsIn K mainGlobals "as_rain" = some (some (.ref fAsRain)))
    (lAsRain : K.lookup fAsRain = some ⟨ocAsRain, odAsRain, .func (PySem.W.fnOf "as_rain" "as_rain" (defArgs sAsRain) (defBody sAsRain) (defScope sAsRain) .none kVAsRain dcAsRain pmAsRain anAsRain cdAsRain ctAsRain), slAsRain⟩)
    (cAsRain : PySem.W.codeIn K cdAsRain "as_rain" = true)
    (kAsRain : PySem.W.keepIn K (.ref fAsRain) = true)
    (aPlayedInit : PySem.W.findIn K (.ref CPlayed) "__init__" = some (some (.ref fPlayedInit)))
    (iPlayedInit : PySem.W.isFn K (.ref fPlayedInit) = true)
    (lPlayedInit : K.lookup fPlayedInit = some ⟨ocPlayedInit, odPlayedInit, .func (PySem.W.fnOf "__init__" "Played.__init__" (defArgs sPlayedInit) (defBody sPlayedInit) (defScope sPlayedInit) .none kVPlayedInit dcPlayedInit pmPlayedInit anPlayedInit cdPlayedInit ctPlayedInit), slPlayedInit⟩)
    (cPlayedInit : PySem.W.codeIn K cdPlayedInit "Played.__init__" = true)
    (kPlayedInit : PySem.W.keepIn K (.ref fPlayedInit) = true)
    (aPlay : PySem.W.nsIn K mainGlobals "play" = some (some (.ref fPlay)))
    (lPlay : K.lookup fPlay = some ⟨ocPlay, odPlay, .func (PySem.W.fnOf "play" "play" (defArgs sPlay) (defBody sPlay) (defScope sPlay) .none kVPlay dcPlay pmPlay anPlay cdPlay ctPlay), slPlay⟩)
    (cPlay : PySem.W.codeIn K cdPlay "play" = true)
    (kPlay : PySem.W.keepIn K (.ref fPlay) = true)
    (aPlayDay : PySem.W.nsIn K mainGlobals "play_day" = some (some (.ref fPlayDay)))
    (lPlayDay : K.lookup fPlayDay = some ⟨ocPlayDay, odPlayDay, .func (PySem.W.fnOf "play_day" "play_day" (defArgs sPlayDay) (defBody sPlayDay) (defScope sPlayDay) .none kVPlayDay dcPlayDay pmPlayDay anPlayDay cdPlayDay ctPlayDay), slPlayDay⟩)
    (cPlayDay : PySem.W.codeIn K cdPlayDay "play_day" = true)
    (kPlayDay : PySem.W.keepIn K (.ref fPlayDay) = true)
    (aPutOff : PySem.W.nsIn K mainGlobals "_put_off" = some (some (.ref fPutOff)))
    (lPutOff : K.lookup fPutOff = some ⟨ocPutOff, odPutOff, .func (PySem.W.fnOf "_put_off" "_put_off" (defArgs sPutOff) (defBody sPutOff) (defScope sPutOff) .none kVPutOff dcPutOff pmPutOff anPutOff cdPutOff ctPutOff), slPutOff⟩)
    (cPutOff : PySem.W.codeIn K cdPutOff "_put_off" = true)
    (kPutOff : PySem.W.keepIn K (.ref fPutOff) = true)
    (aNewDay : PySem.W.nsIn K mainGlobals "_new_day" = some (some (.ref fNewDay)))
    (lNewDay : K.lookup fNewDay = some ⟨ocNewDay, odNewDay, .func (PySem.W.fnOf "_new_day" "_new_day" (defArgs sNewDay) (defBody sNewDay) (defScope sNewDay) .none kVNewDay dcNewDay pmNewDay anNewDay cdNewDay ctNewDay), slNewDay⟩)
    (cNewDay : PySem.W.codeIn K cdNewDay "_new_day" = true)
    (kNewDay : PySem.W.keepIn K (.ref fNewDay) = true)
    (aMatchesNear : PySem.W.nsIn K mainGlobals "_matches_near" = some (some (.ref fMatchesNear)))
    (lMatchesNear : K.lookup fMatchesNear = some ⟨ocMatchesNear, odMatchesNear, .func (PySem.W.fnOf "_matches_near" "_matches_near" (defArgs sMatchesNear) (defBody sMatchesNear) (defScope sMatchesNear) .none kVMatchesNear dcMatchesNear pmMatchesNear anMatchesNear cdMatchesNear ctMatchesNear), slMatchesNear⟩)
    (cMatchesNear : PySem.W.codeIn K cdMatchesNear "_matches_near" = true)
    (kMatchesNear : PySem.W.keepIn K (.ref fMatchesNear) = true)
    (aIsBarred : PySem.W.nsIn K mainGlobals "_is_barred" = some (some (.ref fIsBarred)))
    (lIsBarred : K.lookup fIsBarred = some ⟨ocIsBarred, odIsBarred, .func (PySem.W.fnOf "_is_barred" "_is_barred" (defArgs sIsBarred) (defBody sIsBarred) (defScope sIsBarred) .none kVIsBarred dcIsBarred pmIsBarred anIsBarred cdIsBarred ctIsBarred), slIsBarred⟩)
    (cIsBarred : PySem.W.codeIn K cdIsBarred "_is_barred" = true)
    (kIsBarred : PySem.W.keepIn K (.ref fIsBarred) = true)
    (aRuleInit : PySem.W.findIn K (.ref CRule) "__init__" = some (some (.ref fRuleInit)))
    (iRuleInit : PySem.W.isFn K (.ref fRuleInit) = true)
    (lRuleInit : K.lookup fRuleInit = some ⟨ocRuleInit, odRuleInit, .func (PySem.W.fnOf "__init__" "Rule.__init__" (defArgs sRuleInit) (defBody sRuleInit) (defScope sRuleInit) (.ref dVRuleInit) kVRuleInit dcRuleInit pmRuleInit anRuleInit cdRuleInit ctRuleInit), slRuleInit⟩)
    (cRuleInit : PySem.W.codeIn K cdRuleInit "Rule.__init__" = true)
    (kRuleInit : PySem.W.keepIn K (.ref fRuleInit) = true)
    (DRuleInit : K.lookup dVRuleInit = some ⟨.type "tuple", dWRuleInit, .seq #[.str "first" dTRuleInit0] dNRuleInit, dSRuleInit⟩)
    (aWeekInit : PySem.W.findIn K (.ref CWeek) "__init__" = some (some (.ref fWeekInit)))
    (iWeekInit : PySem.W.isFn K (.ref fWeekInit) = true)
    (lWeekInit : K.lookup fWeekInit = some ⟨ocWeekInit, odWeekInit, .func (PySem.W.fnOf "__init__" "Week.__init__" (defArgs sWeekInit) (defBody sWeekInit) (defScope sWeekInit) .none kVWeekInit dcWeekInit pmWeekInit anWeekInit cdWeekInit ctWeekInit), slWeekInit⟩)
    (cWeekInit : PySem.W.codeIn K cdWeekInit "Week.__init__" = true)
    (kWeekInit : PySem.W.keepIn K (.ref fWeekInit) = true)
    (aWeekOn : PySem.W.findIn K (.ref CWeek) "on" = some (some (.ref fWeekOn)))
    (iWeekOn : PySem.W.isFn K (.ref fWeekOn) = true)
    (lWeekOn : K.lookup fWeekOn = some ⟨ocWeekOn, odWeekOn, .func (PySem.W.fnOf "on" "Week.on" (defArgs sWeekOn) (defBody sWeekOn) (defScope sWeekOn) .none kVWeekOn dcWeekOn pmWeekOn anWeekOn cdWeekOn ctWeekOn), slWeekOn⟩)
    (cWeekOn : PySem.W.codeIn K cdWeekOn "Week.on" = true)
    (kWeekOn : PySem.W.keepIn K (.ref fWeekOn) = true)
    (aAreMatches : PySem.W.nsIn K mainGlobals "_are_matches" = some (some (.ref fAreMatches)))
    (lAreMatches : K.lookup fAreMatches = some ⟨ocAreMatches, odAreMatches, .func (PySem.W.fnOf "_are_matches" "_are_matches" (defArgs sAreMatches) (defBody sAreMatches) (defScope sAreMatches) .none kVAreMatches dcAreMatches pmAreMatches anAreMatches cdAreMatches ctAreMatches), slAreMatches⟩)
    (cAreMatches : PySem.W.codeIn K cdAreMatches "_are_matches" = true)
    (kAreMatches : PySem.W.keepIn K (.ref fAreMatches) = true)
    (aIsMatch : PySem.W.nsIn K mainGlobals "_is_match" = some (some (.ref fIsMatch)))
    (lIsMatch : K.lookup fIsMatch = some ⟨ocIsMatch, odIsMatch, .func (PySem.W.fnOf "_is_match" "_is_match" (defArgs sIsMatch) (defBody sIsMatch) (defScope sIsMatch) .none kVIsMatch dcIsMatch pmIsMatch anIsMatch cdIsMatch ctIsMatch), slIsMatch⟩)
    (cIsMatch : PySem.W.codeIn K cdIsMatch "_is_match" = true)
    (kIsMatch : PySem.W.keepIn K (.ref fIsMatch) = true)
    (aBox : PySem.W.nsIn K mainGlobals "_law_box" = some (some (.ref fBox)))
    (lBox : K.lookup fBox = some ⟨ocBox, odBox, .func (PySem.W.fnOf "_law_box" "_law_box" (defArgs sBox) (defBody sBox) (defScope sBox) .none kVBox dcBox pmBox anBox cdBox ctBox), slBox⟩)
    (cBox : PySem.W.codeIn K cdBox "_law_box" = true)
    (kBox : PySem.W.keepIn K (.ref fBox) = true)
    (aTake : PySem.W.nsIn K mainGlobals "_law_take" = some (some (.ref fTake)))
    (lTake : K.lookup fTake = some ⟨ocTake, odTake, .func (PySem.W.fnOf "_law_take" "_law_take" (defArgs sTake) (defBody sTake) (defScope sTake) .none kVTake dcTake pmTake anTake cdTake ctTake), slTake⟩)
    (cTake : PySem.W.codeIn K cdTake "_law_take" = true)
    (kTake : PySem.W.keepIn K (.ref fTake) = true)
    (aLaw : PySem.W.nsIn K mainGlobals "law" = some (some (.ref fLaw)))
    (lLaw : K.lookup fLaw = some ⟨ocLaw, odLaw, .func (PySem.W.fnOf "law" "law" (defArgs sLaw) (defBody sLaw) (defScope sLaw) .none kVLaw dcLaw pmLaw anLaw cdLaw ctLaw), slLaw⟩)
    (cLaw : PySem.W.codeIn K cdLaw "law" = true)
    (kLaw : PySem.W.keepIn K (.ref fLaw) = true)
    (zLETTERS : PySem.W.nsIn K mainGlobals "LETTERS" = some (some (.str "abcdefghijklmnopqrstuvwxyz" kLETTERS)))
    (zlen : PySem.W.nsIn K mainGlobals "len" = some none)
    (zabs : PySem.W.nsIn K mainGlobals "abs" = some none)
    (zint : PySem.W.nsIn K mainGlobals "int" = some none)
    (zrange : PySem.W.nsIn K mainGlobals "range" = some none)
    (zmax : PySem.W.nsIn K mainGlobals "max" = some none)
    (zmin : PySem.W.nsIn K mainGlobals "min" = some none)
    (ztuple : PySem.W.nsIn K mainGlobals "tuple" = some none)
    (zlist : PySem.W.nsIn K mainGlobals "list" = some none)
    (zisinstance : PySem.W.nsIn K mainGlobals "isinstance" = some none)
    (zall : PySem.W.nsIn K mainGlobals "all" = some none)
    (zany : PySem.W.nsIn K mainGlobals "any" = some none)
    (zsorted : PySem.W.nsIn K mainGlobals "sorted" = some none)
    (zset : PySem.W.nsIn K mainGlobals "set" = some none)
    (zstr : PySem.W.nsIn K mainGlobals "str" = some none)
    (zbool : PySem.W.nsIn K mainGlobals "bool" = some none)
    (zenumerate : PySem.W.nsIn K mainGlobals "enumerate" = some none) :
    ∃ fd : FuncData, (∀ (s : Shared) (u : Value), BindsTo s fd ⟨[u], []⟩ [("_law_script", u)]) ∧ ∀ base : Heap, K.In base → base.Ns mainGlobals mg → FnG l.prog w K mg base CX0 8 fa fd ["_law_script"] (spLaw K) := by
  have T : Txt K mg := {
    fIsIntegerFrom := fIsIntegerFrom, fdIsIntegerFrom := _, FIsIntegerFrom := fun_mk lIsIntegerFrom cIsIntegerFrom kIsIntegerFrom,
    gIsIntegerFrom := PySem.W.mg_of X G aIsIntegerFrom,
    fIsNumber := fIsNumber, fdIsNumber := _, FIsNumber := fun_mk lIsNumber cIsNumber kIsNumber,
    gIsNumber := PySem.W.mg_of X G aIsNumber,
    fIsSequence := fIsSequence, fdIsSequence := _, FIsSequence := fun_mk lIsSequence cIsSequence kIsSequence,
    gIsSequence := PySem.W.mg_of X G aIsSequence,
    fIsName := fIsName, fdIsName := _, FIsName := fun_mk lIsName cIsName kIsName,
    gIsName := PySem.W.mg_of X G aIsName,
    fAsRain := fAsRain, fdAsRain := _, FAsRain := fun_mk lAsRain cAsRain kAsRain,
    gAsRain := PySem.W.mg_of X G aAsRain,
    fPlayedInit := fPlayedInit, fdPlayedInit := _, FPlayedInit := fun_mk lPlayedInit cPlayedInit kPlayedInit,
    fPlay := fPlay, fdPlay := _, FPlay := fun_mk lPlay cPlay kPlay,
    gPlay := PySem.W.mg_of X G aPlay,
    fPlayDay := fPlayDay, fdPlayDay := _, FPlayDay := fun_mk lPlayDay cPlayDay kPlayDay,
    gPlayDay := PySem.W.mg_of X G aPlayDay,
    fPutOff := fPutOff, fdPutOff := _, FPutOff := fun_mk lPutOff cPutOff kPutOff,
    gPutOff := PySem.W.mg_of X G aPutOff,
    fNewDay := fNewDay, fdNewDay := _, FNewDay := fun_mk lNewDay cNewDay kNewDay,
    gNewDay := PySem.W.mg_of X G aNewDay,
    fMatchesNear := fMatchesNear, fdMatchesNear := _, FMatchesNear := fun_mk lMatchesNear cMatchesNear kMatchesNear,
    gMatchesNear := PySem.W.mg_of X G aMatchesNear,
    fIsBarred := fIsBarred, fdIsBarred := _, FIsBarred := fun_mk lIsBarred cIsBarred kIsBarred,
    gIsBarred := PySem.W.mg_of X G aIsBarred,
    fRuleInit := fRuleInit, fdRuleInit := _, FRuleInit := ⟨⟨_, _, _, _, _, _, _, _, _, _, rfl, lRuleInit, cRuleInit, .inr ⟨by simp, _, _, [.str "first" dTRuleInit0], _, rfl, DRuleInit, rfl, .cons ⟨_, rfl⟩ (.nil)⟩, .inl rfl⟩, kRuleInit⟩,
    fWeekInit := fWeekInit, fdWeekInit := _, FWeekInit := fun_mk lWeekInit cWeekInit kWeekInit,
    fWeekOn := fWeekOn, fdWeekOn := _, FWeekOn := fun_mk lWeekOn cWeekOn kWeekOn,
    fAreMatches := fAreMatches, fdAreMatches := _, FAreMatches := fun_mk lAreMatches cAreMatches kAreMatches,
    gAreMatches := PySem.W.mg_of X G aAreMatches,
    fIsMatch := fIsMatch, fdIsMatch := _, FIsMatch := fun_mk lIsMatch cIsMatch kIsMatch,
    gIsMatch := PySem.W.mg_of X G aIsMatch,
    fBox := fBox, fdBox := _, FBox := fun_mk lBox cBox kBox,
    gBox := PySem.W.mg_of X G aBox,
    fTake := fTake, fdTake := _, FTake := fun_mk lTake cTake kTake,
    gTake := PySem.W.mg_of X G aTake,
    fLaw := fLaw, fdLaw := _, FLaw := fun_mk lLaw cLaw kLaw,
    gLaw := PySem.W.mg_of X G aLaw,
    CRule := CRule, gRule := PySem.W.mg_of X G ARule,
    clRule := ⟨pgRule, hdRule, poRule, saRule⟩,
    MRule := ⟨mkRule, aRuleInit, iRuleInit, kcRule⟩,
    nRule_gap := nRule_gap,
    nRule_window := nRule_window,
    nRule_let := nRule_let,
    nRule_order := nRule_order,
    CWeek := CWeek, gWeek := PySem.W.mg_of X G AWeek,
    clWeek := ⟨pgWeek, hdWeek, poWeek, saWeek⟩,
    MWeek := ⟨mkWeek, aWeekInit, iWeekInit, kcWeek⟩,
    nWeek_days := nWeek_days,
    nWeek_matches := nWeek_matches,
    mWeekOn := ⟨aWeekOn, iWeekOn, kWeekOn⟩,
    CPlayed := CPlayed, gPlayed := PySem.W.mg_of X G APlayed,
    clPlayed := ⟨pgPlayed, hdPlayed, poPlayed, saPlayed⟩,
    MPlayed := ⟨mkPlayed, aPlayedInit, iPlayedInit, kcPlayed⟩,
    nPlayed_played := nPlayed_played,
    nPlayed_lost := nPlayed_lost,
    nPlayed_waiting := nPlayed_waiting,
    aORDERS := aORDERS, gORDERS := PySem.W.mg_of X G AORDERS, qORDERS := fun H => .inr ⟨_, _, _, BORDERS, rfl, rfl, sz (Nat.le_of_ble_eq_true rfl), .cons ⟨_, rfl⟩ (.cons ⟨_, rfl⟩ (.nil))⟩,
    kLETTERS := kLETTERS, gLETTERS := PySem.W.mg_of X G zLETTERS,
    m_len := PySem.W.mg_none_of X G zlen,
    m_abs := PySem.W.mg_none_of X G zabs,
    m_int := PySem.W.mg_none_of X G zint,
    m_range := PySem.W.mg_none_of X G zrange,
    m_max := PySem.W.mg_none_of X G zmax,
    m_min := PySem.W.mg_none_of X G zmin,
    m_tuple := PySem.W.mg_none_of X G ztuple,
    m_list := PySem.W.mg_none_of X G zlist,
    m_isinstance := PySem.W.mg_none_of X G zisinstance,
    m_all := PySem.W.mg_none_of X G zall,
    m_any := PySem.W.mg_none_of X G zany,
    m_sorted := PySem.W.mg_none_of X G zsorted,
    m_set := PySem.W.mg_none_of X G zset,
    m_str := PySem.W.mg_none_of X G zstr,
    m_bool := PySem.W.mg_none_of X G zbool,
    m_enumerate := PySem.W.mg_none_of X G zenumerate }
  cases hfa.symm.trans T.gLaw
  exact ⟨T.fdLaw, bnd_law T.FLaw, fun base _ _ => ok_lawG T⟩
end L17
open PySem PySem.W PyProof.Rows
set_option maxRecDepth 100000 in
set_option maxHeartbeats 0 in
theorem PySem.Challenge.cw_rainweeks_k17_plays_known_by_hand_holds : PySem.Challenge.rw_rainweeks_k17_plays_known_by_hand.Holds := by
  w_on; o_law; k_head; (case hw => w_witness2)
  k_fill
  refine Rw.walk_g (l := PySem.Challenge.rw_rainweeks_k17_plays_known_by_hand) (n := 63) (k := 8) (x := "_law_script") (CX := L2.CX0) (sp := Rw.spLaw) rfl (by decide) rfl ⟨rfl, by decide, by decide⟩ (fun w h Y => PySem.W.kIn_of Y) ?F Rw.sp_start (fun _ _ _ _ h => h)
  case F =>
    intro w mg fa h KX G hmg
    refine' L17.fin KX G hmg ?ARule ?pgRule ?hdRule ?poRule ?saRule ?mkRule ?kcRule ?nRule_gap ?nRule_window ?nRule_let ?nRule_order ?AWeek ?pgWeek ?hdWeek ?poWeek ?saWeek ?mkWeek ?kcWeek ?nWeek_days ?nWeek_matches ?APlayed ?pgPlayed ?hdPlayed ?poPlayed ?saPlayed ?mkPlayed ?kcPlayed ?nPlayed_played ?nPlayed_lost ?nPlayed_waiting ?AORDERS ?BORDERS ?aIsIntegerFrom ?lIsIntegerFrom ?cIsIntegerFrom ?kIsIntegerFrom ?aIsNumber ?lIsNumber ?cIsNumber ?kIsNumber ?aIsSequence ?lIsSequence ?cIsSequence ?kIsSequence ?aIsName ?lIsName ?cIsName ?kIsName ?aAsRain ?lAsRain ?cAsRain ?kAsRain ?aPlayedInit ?iPlayedInit ?lPlayedInit ?cPlayedInit ?kPlayedInit ?aPlay ?lPlay ?cPlay ?kPlay ?aPlayDay ?lPlayDay ?cPlayDay ?kPlayDay ?aPutOff ?lPutOff ?cPutOff ?kPutOff ?aNewDay ?lNewDay ?cNewDay ?kNewDay ?aMatchesNear ?lMatchesNear ?cMatchesNear ?kMatchesNear ?aIsBarred ?lIsBarred ?cIsBarred ?kIsBarred ?aRuleInit ?iRuleInit ?lRuleInit ?cRuleInit ?kRuleInit ?DRuleInit ?aWeekInit ?iWeekInit ?lWeekInit ?cWeekInit ?kWeekInit ?aWeekOn ?iWeekOn ?lWeekOn ?cWeekOn ?kWeekOn ?aAreMatches ?lAreMatches ?cAreMatches ?kAreMatches ?aIsMatch ?lIsMatch ?cIsMatch ?kIsMatch ?aBox ?lBox ?cBox ?kBox ?aTake ?lTake ?cTake ?kTake ?aLaw ?lLaw ?cLaw ?kLaw ?zLETTERS ?zlen ?zabs ?zint ?zrange ?zmax ?zmin ?ztuple ?zlist ?zisinstance ?zall ?zany ?zsorted ?zset ?zstr ?zbool ?zenumerate
    (case ARule => k_is)
    (case pgRule => k_is)
    (case hdRule => k_is)
    (case poRule => k_is)
    (case saRule => k_is)
    (case mkRule => k_is)
    (case kcRule => k_is)
    (case nRule_gap => k_is)
    (case nRule_window => k_is)
    (case nRule_let => k_is)
    (case nRule_order => k_is)
    (case AWeek => k_is)
    (case pgWeek => k_is)
    (case hdWeek => k_is)
    (case poWeek => k_is)
    (case saWeek => k_is)
    (case mkWeek => k_is)
    (case kcWeek => k_is)
    (case nWeek_days => k_is)
    (case nWeek_matches => k_is)
    (case APlayed => k_is)
    (case pgPlayed => k_is)
    (case hdPlayed => k_is)
    (case poPlayed => k_is)
    (case saPlayed => k_is)
    (case mkPlayed => k_is)
    (case kcPlayed => k_is)
    (case nPlayed_played => k_is)
    (case nPlayed_lost => k_is)
    (case nPlayed_waiting => k_is)
    (case AORDERS => k_is)
    (case BORDERS => k_is)
    (case aIsIntegerFrom => k_is)
    (case lIsIntegerFrom => k_is)
    (case cIsIntegerFrom => k_is)
    (case kIsIntegerFrom => k_is)
    (case aIsNumber => k_is)
    (case lIsNumber => k_is)
    (case cIsNumber => k_is)
    (case kIsNumber => k_is)
    (case aIsSequence => k_is)
    (case lIsSequence => k_is)
    (case cIsSequence => k_is)
    (case kIsSequence => k_is)
    (case aIsName => k_is)
    (case lIsName => k_is)
    (case cIsName => k_is)
    (case kIsName => k_is)
    (case aAsRain => k_is)
    (case lAsRain => k_is)
    (case cAsRain => k_is)
    (case kAsRain => k_is)
    (case aPlayedInit => k_is)
    (case iPlayedInit => k_is)
    (case lPlayedInit => k_is)
    (case cPlayedInit => k_is)
    (case kPlayedInit => k_is)
    (case aPlay => k_is)
    (case lPlay => k_is)
    (case cPlay => k_is)
    (case kPlay => k_is)
    (case aPlayDay => k_is)
    (case lPlayDay => k_is)
    (case cPlayDay => k_is)
    (case kPlayDay => k_is)
    (case aPutOff => k_is)
    (case lPutOff => k_is)
    (case cPutOff => k_is)
    (case kPutOff => k_is)
    (case aNewDay => k_is)
    (case lNewDay => k_is)
    (case cNewDay => k_is)
    (case kNewDay => k_is)
    (case aMatchesNear => k_is)
    (case lMatchesNear => k_is)
    (case cMatchesNear => k_is)
    (case kMatchesNear => k_is)
    (case aIsBarred => k_is)
    (case lIsBarred => k_is)
    (case cIsBarred => k_is)
    (case kIsBarred => k_is)
    (case aRuleInit => k_is)
    (case iRuleInit => k_is)
    (case lRuleInit => k_is)
    (case cRuleInit => k_is)
    (case kRuleInit => k_is)
    (case DRuleInit => k_is)
    (case aWeekInit => k_is)
    (case iWeekInit => k_is)
    (case lWeekInit => k_is)
    (case cWeekInit => k_is)
    (case kWeekInit => k_is)
    (case aWeekOn => k_is)
    (case iWeekOn => k_is)
    (case lWeekOn => k_is)
    (case cWeekOn => k_is)
    (case kWeekOn => k_is)
    (case aAreMatches => k_is)
    (case lAreMatches => k_is)
    (case cAreMatches => k_is)
    (case kAreMatches => k_is)
    (case aIsMatch => k_is)
    (case lIsMatch => k_is)
    (case cIsMatch => k_is)
    (case kIsMatch => k_is)
    (case aBox => k_is)
    (case lBox => k_is)
    (case cBox => k_is)
    (case kBox => k_is)
    (case aTake => k_is)
    (case lTake => k_is)
    (case cTake => k_is)
    (case kTake => k_is)
    (case aLaw => k_is)
    (case lLaw => k_is)
    (case cLaw => k_is)
    (case kLaw => k_is)
    (case zLETTERS => k_is)
    (case zlen => k_is)
    (case zabs => k_is)
    (case zint => k_is)
    (case zrange => k_is)
    (case zmax => k_is)
    (case zmin => k_is)
    (case ztuple => k_is)
    (case zlist => k_is)
    (case zisinstance => k_is)
    (case zall => k_is)
    (case zany => k_is)
    (case zsorted => k_is)
    (case zset => k_is)
    (case zstr => k_is)
    (case zbool => k_is)
    (case zenumerate => k_is)
