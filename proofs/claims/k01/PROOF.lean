import PyProof.Rows.All
import Wide.All
import OpenK.AllK
import Wide.FinOn
import HandS.ForMost
import HandS.ForExc
import HandS.ExcInit
import HandS.ExcField
import HandS.ExcIs
import HandS.IsInst
import HandS.Flow
import HandS.Defaults
import HandS.CallLocal
import PySem.Challenge.RW_rainweeks_k01_errors_and_what_they_keep
set_option Elab.async false
set_option linter.all false
set_option maxRecDepth 100000
set_option maxHeartbeats 4000000
/-! own layer: promises of defs that are called where no repr is under way (the guards are known) -/
namespace Rw
open PySem PySem.Spec PyProof.Rows L2

/-- as FnOk, for calls around which nothing is being shown -/
structure FnG (P : Program) (w : World) (K : PySem.W.Frag) (mg : Str → Option Value) (base : Heap) (CX : CXT) (k : Nat) (f : Addr) (fd : FuncData) (ps : List Str) (sp : Sp) : Prop where
  count : ∀ vs H Q E, sp vs H Q E → vs.length = ps.length
  go : ∀ (A : Around) (ou : List Env) (s : Shared) (H : Hp) (ar : Args) (us : List Value) (vs : List V) (Q : VK) (E : XK), A.guards = some [] → Room k A → Env0 P w K mg base A ou s H → BindsTo s fd ar (ps.zip us) → Vals vs us → sp vs H Q E →
    codeAny (model P w) A (.call (.ref f) ar) (CR CX ou P w H s Q E) s
section
variable {P : Program} {w : World} {K : PySem.W.Frag} {mg : Str → Option Value} {base : Heap} {CX : CXT}
theorem ofOk {k : Nat} {f : Addr} {fd : FuncData} {ps : List Str} {sp : Sp} (F : FnOk P w K mg base CX k f fd ps sp) : FnG P w K mg base CX k f fd ps sp :=
  ⟨F.len, fun A ou s H ar us vs Q E _ hr he hb hv hs => F.run A ou s H ar us vs Q E hr he hb hv hs⟩
theorem FnG.up {j k : Nat} {f : Addr} {fd : FuncData} {ps : List Str} {sp : Sp} (F : FnG P w K mg base CX j f fd ps sp) (h : j ≤ k) : FnG P w K mg base CX k f fd ps sp :=
  ⟨F.count, fun A ou s H ar us vs Q E hg hr => F.go A ou s H ar us vs Q E hg (hr.mono h)⟩

/-- a def of the text, by its body -/
theorem fn_g {k : Nat} {f : Addr} {nm ql : Str} {pa : Arguments} {bo : List Stmt} {sc : Scope} {dV kV doc pm cdv ct oc : Value} {an od : Option Addr} {osl : Array (Option Value)} {N ps : List Str} {sp : Sp}
    (lk : K.lookup f = some ⟨oc, od, .func (PySem.W.fnOf nm ql pa bo sc dV kV doc pm an cdv ct), osl⟩) (hcd : PySem.W.codeIn K cdv ql = true) (S : FnScope N ps sc) (cnt : ∀ vs H Q E, sp vs H Q E → vs.length = ps.length)
    (hb : ∀ (A : Around) (ou : List Env) (s : Shared) (H : Hp) (vs : List V) (Q : VK) (E : XK), A.guards = some [] → Room k (A.deeper (envOfC ql sc s.heap.objs.size f cdv)) → sp vs H Q E →
      ∃ t, PSs (cxOf CX P w K mg base N ql sc f cdv A ou s H E) bo t ∧ t { nx := fun _ H' => Q .non H', rt := Q } (start N vs) H) :
    FnG P w K mg base CX (k + 1) f (PySem.W.fnOf nm ql pa bo sc dV kV doc pm an cdv ct) ps sp := by
  constructor
  · exact cnt
  · intro A ou s H ar us vs Q E hg hr e0 hbd r hsp
    have KX := e0.mod.kin.keeps (h' := s.heap) fun b o e => (e0.bs b o e).1
    have lim := e0.mod.nolimit.keeps (h' := s.heap) fun b o e => (e0.bs b o e).1
    have kinds : ∀ y ∈ ps.zip us, sc.names.lookup y.1 = some .local ∨ (sc.names.lookup y.1 = some .cell ∧ ((cellsFrom (s.heap.objs.size + 1) sc.names []).lookup y.1).isSome = true) := by
      rintro ⟨n, v⟩ hy
      exact (S.par n (List.of_mem_zip hy).1).imp id fun q => ⟨q, PySem.W.cellsFrom_some _ _ _ (.inl q)⟩
    apply codeAny_call_function hr.depth (KX _ _ lk) rfl S.co S.gen rfl (PySem.W.codeRec_of KX hcd)
    apply hbd
    refine wpAny_newFunctionEnv_cells S.kind kinds fun env he s1 x => ?_
    cases he
    obtain ⟨t, ht, hq⟩ := hb A ou s H vs Q E hg (hr.deeper _) hsp
    have I := inv_start (CX := CX) (P := P) (w := w) (K := K) (mg := mg) (base := base) (N := N) (qual := ql) (f := f) (cd := cdv) (E := E) S hr.hd e0 (cnt _ _ _ _ hsp) r x
    refine ⟨lim.keeps x.toInCall.keep, codeAny_func (wpAny_mono (ht.run [] s1 _ H _ I hq) (fun fl s' hs => ?_) fun _ _ z => z)⟩
    cases fl with
    | next => obtain ⟨_, H2, J, q⟩ := hs; exact ⟨V.non, H2, J.os, J.bare, J.base, J.hok, rfl, q⟩
    | ret u => obtain ⟨v, _, H2, J, rv, q⟩ := hs; exact ⟨v, H2, J.os, J.bare, J.base, J.hok, rv, q⟩
    | brk => obtain ⟨_, _, _, q⟩ := hs; exact q.elim
    | cont => obtain ⟨_, _, _, q⟩ := hs; exact q.elim

theorem Fun.g {x ql : Str} {st : Stmt} {f : Addr} {fd : FuncData} {N ps : List Str} {k : Nat} {sp : Sp} (F : Fun K x ql st f fd) (S : FnScope N ps (defScope st)) (cnt : ∀ vs H Q E, sp vs H Q E → vs.length = ps.length)
    (hb : ∀ (cdv : Value) (A : Around) (ou : List Env) (s : Shared) (H : Hp) (vs : List V) (Q : VK) (E : XK), A.guards = some [] → Room k (A.deeper (envOfC ql (defScope st) s.heap.objs.size f cdv)) → sp vs H Q E →
      ∃ t, PSs (cxOf CX0 P w K mg base N ql (defScope st) f cdv A ou s H E).nox (defBody st) t ∧ t { nx := fun _ H' => Q .non H', rt := Q } (start N vs) H) : FnG P w K mg base CX0 (k + 1) f fd ps sp := by
  obtain ⟨_, _, _, _, _, _, cdv, _, _, rfl, lk, hcd⟩ := F.ex
  exact fn_g lk hcd S cnt fun A ou s H vs Q E hg hr hsp => let ⟨t, h, q⟩ := hb cdv A ou s H vs Q E hg hr hsp; ⟨t, h.nox, q⟩
end

section
variable {X : Cx} {CX : CXT} {k : Nat} {f : Addr} {fd : FuncData} {ps : List Str} {sp : Sp} {dvs : List V} {ds : List Value} {E : XK} {x : Str} {p pos : Pos} {e : Expr} {es : List Expr} {t : TA}
theorem run_g {pins : List (Addr × Obj)} {σ : L2.St} {H : Hp} {s : Shared} {Q : VK} {us : List Value} {vs : List V} (F : FnG X.prog X.w X.K X.mg X.base CX k f fd ps sp) (hG : X.A.guards = some []) (hr : Room k X.A) (hb : Binds X.K fd ps ds) (hd : Vals dvs ds) (hx : Passes CX X E)
    (I : Inv X pins σ H s) (r : Vals vs us) (h : sp (vs ++ dvs) H Q E) : wpAny (model X.prog X.w) X.A (call (.ref f) us) (EP X pins σ Q) X.xe s := by
  have r2 : Vals (vs ++ dvs) (us ++ ds) := r.append hd
  have hn : (us ++ ds).length = ps.length := r2.length ▸ F.count _ _ _ _ h
  apply wpAny_call
  refine codeAny_mono (F.go X.A X.stack s H ⟨us, []⟩ _ _ Q E hG hr I.env0 (hb s us I.kIn hn) r2 h) ?_
  rintro (er | fl) s' hq
  · exact hx pins σ H s er s' I hq
  · cases fl <;> first | exact I.after hq | exact hq.elim
theorem pe_callG (F : FnG X.prog X.w X.K X.mg X.base CX k f fd ps sp) (hG : X.A.guards = some []) (hr : Room k X.A) (hg : Gl X x) (hm : X.mg x = some (.ref f)) (hk : PySem.W.keepIn X.K (.ref f) = true) (hb : Binds X.K fd ps ds) (hd : Vals dvs ds) (hx : Passes CX X E)
    (ha : PA X (e :: es) t) (hdb : (x == ("__debug__" : Str)) = false := by decide) (he : starEach (e :: es) X.env = (false, eval e X.env) :: starEach es X.env := by rfl) (hpl : (backTo pos (starEach es X.env)).any (·.1) = false := by rfl) :
    PE X (.Call (.Name x p) (e :: es) [] pos) (tCall sp dvs E t) := by
  constructor
  intro pins s σ H Q I h
  apply wpAny_Call_Name_kw
  refine ld_glob I hg hm (PySem.W.callWith_K (h₀ := X.base) I.ok.mod.kin hk (thn (ha.run pos pins s σ H _ I h) ?_) he hpl) hdb
  rintro us s1 ⟨vs, H1, I1, r, q⟩
  exact ⟨I1.kIn, run_g F hG hr hb hd hx I1 r q⟩
end

/-! ### repr of data -/
/-- data that can be shown: no dicts, ints of known size, not too deep, not too long -/
structure Shw (d : PyData) : Prop where
  sh : d.showable = true
  nd : d.hasDict = false
  dp : d.depth ≤ 60
  ln : d.shown.length ≤ sizeLine
def rRepr (K : PySem.W.Frag) : List V → Hp → VK → Prop := fun xs H Q => ∃ v d, xs = [v] ∧ Dp K H v d ∧ Shw d ∧ Q (.str d.shown) H
theorem call_repr {X : Cx} (hG : X.A.guards = some []) (hu : X.A.units + 64 < cLine) : CallR X (.builtin "repr") (rRepr X.K) := by
  intro pins s σ H xs us Q I r h
  obtain ⟨v, d, rfl, hd, hs, q⟩ := h
  obtain ⟨u, rfl, ru⟩ := vals1 r
  obtain ⟨as, R⟩ := Dp.reads I d v u hd ru
  have fin : ∀ {h' : Heap} {t : Tok} {tk : Nat}, (∀ b o, s.heap.get? b = some o → h'.get? b = some o) → EP X pins σ Q (.str d.shown t) { s with heap := h', toks := tk } := fun k => ⟨.str d.shown, H, I.kept k, ⟨_, rfl⟩, q⟩
  have big : ∀ a, u = .ref a → wpAny (model X.prog X.w) X.A (call (.builtin "repr") [u]) (EP X pins σ Q) X.xe s := by
    rintro a rfl
    exact repr_of_reads' R hs.sh (PyData.noDict_hsm hs.nd) hG (by have := hs.dp; omega) (fun _ _ z => z) (fun h' u tk k => fin k) hs.ln
  have ln := hs.ln
  have sh := hs.sh
  cases R with
  | none => exact PySem.P.repr_of_none (fin fun _ _ z => z)
  | bool b => exact PySem.P.repr_of_bool (fin fun _ _ z => z)
  | int i t => exact PySem.P.repr_of_int (by simpa [PyData.showable] using sh) (fin fun _ _ z => z)
  | str y t => exact PySem.P.repr_of_str (fin fun _ _ z => z) (by simpa only [PyData.shown] using ln)
  | list => exact big _ rfl
  | tuple => exact big _ rfl
  | dict => exact big _ rfl

/-! ### the end of a law: its promise, where nothing is being shown -/
section
variable {P : Program} {w : World} {K : PySem.W.Frag} {mg mb : Str → Option Value} {CX : CXT} {k : Nat} {fa a : Addr} {fd : FuncData} {x : Str} {sp : Sp} {s1 : Shared} {vs : List Value} {ns : List Int}
/-- from an abstract heap that tracks at most the script -/
theorem law_at {H : Hp} (KX : K.In s1.heap) (hns : s1.heap.Ns mainGlobals mg) (hb : s1.heap.Ns builtinsNs mb) (hbb : ∀ x : Str, x ≠ "__name__" → mb x = bootBuiltins x) (hlim : s1.heap.NoLimit) (hgen : s1.gens = #[])
    (ha : s1.heap.get? a = some { cls := .type "list", data := .seq vs.toArray }) (hr : Room k callerA)
    (F : ∀ base : Heap, K.In base → base.Ns mainGlobals mg → FnG P w K mg base CX k fa fd [x] sp) (hbind : ∀ (s : Shared) (u : Value), BindsTo s fd ⟨[u], []⟩ [(x, u)])
    (hsp : sp [.ref a] H (fun v _ => v = .bl true) fun _ _ _ => False) (hCX : ∀ e s', CX [] H s1 (fun _ _ _ => False) e s' → False)
    (only : Only H) (hok : HOk P w H s1.heap) (near : ∀ b, H b ≠ none → b = a) (apart : H a ≠ none → K.lookup a = none) :
    codeAny (model P w) callerA (.call (.ref fa) ⟨[.ref a], []⟩) (fun r s' => r = .ok (.ret (.bool true)) ∧ OldK s1.heap s'.heap ∧ s'.os = s1.os ∧ AllBare s'.gens) s1 := by
  have noDict : ∀ {b : Addr} {o : Obj} {es : Array DictEntry} {ep : Nat}, s1.heap.get? b = some o → o.data = .dict es ep → H b = none := by
    intro b o es ep e d
    by_cases q : H b = none
    · exact q
    · cases near b q
      rw [ha] at e
      cases e
      cases (show Data.seq vs.toArray _ = Data.dict es ep from d)
  have ns : ∀ {b : Addr} {m : Str → Option Value}, s1.heap.Ns b m → (hidT s1.heap H).Ns b m := fun {b m} z => by
    obtain ⟨o, es, ep, e, d, r⟩ := z
    exact ⟨o, es, ep, hidT_get e (noDict e d), d, r⟩
  have kb : K.In (hidT s1.heap H) := by
    intro b o e
    refine hidT_get (KX b o e) ?_
    by_cases q : H b = none
    · exact q
    · cases near b q
      rw [apart q] at e
      cases e
  have M : Mod K mg (hidT s1.heap H) := { kin := kb, glob := ns hns, blt := ⟨mb, ns hb, hbb⟩, nolimit := let ⟨mc, h1, h2⟩ := hlim; ⟨mc, ns h1, h2⟩ }
  have e0 : Env0 P w K mg (hidT s1.heap H) callerA [] s1 H := { frames := rfl, mod := M, bs := fun b o e => of_hidT e, bsz := Nat.le_of_eq (hidT_size _ _), funs := trivial, frf := (fun b z => nomatch z), hok := hok, bare := .of_eq hgen }
  refine codeAny_mono ((F _ kb (ns hns)).go callerA [] s1 H ⟨[.ref a], []⟩ [.ref a] [.ref a] _ _ rfl hr e0 (hbind s1 (.ref a)) (.cons rfl .nil) hsp) ?_
  rintro (e | fl) s' h
  · exact (hCX e s' h).elim
  · cases fl <;> first | exact h.elim | skip
    obtain ⟨v, H', os, bare, un, hok', r', q⟩ := h
    cases (show v = .bl true from q)
    cases (show _ = Value.bool true from r')
    refine ⟨rfl, OldK.of_keep fun b o e => ?_, os, bare⟩
    rcases only b with q | ⟨ob, xs, q⟩
    · exact un.keep b o e q (fun z => nomatch z) (fun z => nomatch z)
    · obtain ⟨e1, _⟩ := hok b _ q
      obtain ⟨e2, _⟩ := hok' b _ (un.frzs b ob _ q)
      exact e2.trans (e1.symm.trans e)
end
theorem law_g {P : Program} {w : World} {K : PySem.W.Frag} {mg mb : Str → Option Value} {CX : CXT} {k : Nat} {fa a : Addr} {fd : FuncData} {x : Str} {sp : Sp} {s1 : Shared} {vs : List Value} {ns : List Int}
    (KX : K.In s1.heap) (hns : s1.heap.Ns mainGlobals mg) (hb : s1.heap.Ns builtinsNs mb) (hbb : ∀ x : Str, x ≠ "__name__" → mb x = bootBuiltins x) (hlim : s1.heap.NoLimit) (hgen : s1.gens = #[])
    (ha : s1.heap.get? a = some { cls := .type "list", data := .seq vs.toArray }) (hi : IntsAre vs ns) (hl : ns.length ≤ sizeLine) (hr : Room k callerA)
    (F : ∀ base : Heap, K.In base → base.Ns mainGlobals mg → FnG P w K mg base CX k fa fd [x] sp) (hbind : ∀ (s : Shared) (u : Value), BindsTo s fd ⟨[u], []⟩ [(x, u)])
    (hsp : ∀ H : Hp, Only H → SqL K H a (ns.map V.int) → sp [.ref a] H (fun v _ => v = .bl true) fun _ _ _ => False) (hCX : ∀ H e s', CX [] H s1 (fun _ _ _ => False) e s' → False) :
    codeAny (model P w) callerA (.call (.ref fa) ⟨[.ref a], []⟩) (fun r s' => r = .ok (.ret (.bool true)) ∧ OldK s1.heap s'.heap ∧ s'.os = s1.os ∧ AllBare s'.gens) s1 := by
  have rv := vals_ints hi
  have hlen : vs.length = ns.length := hi.length
  rcases hk : K.lookup a with _ | o
  · have on : Only (fun b => if b = a then some (.frz { cls := .type "list", data := .seq vs.toArray } (.lst (ns.map V.int))) else none) := fun b => by
      by_cases e : b = a
      · exact .inr ⟨_, _, if_pos e⟩
      · exact .inl (if_neg e)
    have sq := fun (h : _) => hsp _ on h
    refine law_at KX hns hb hbb hlim hgen ha hr F hbind (sq (.inl (.inr ⟨_, if_pos rfl⟩))) (hCX _) on (fun b u z => ?_) (fun b z => ?_) fun _ => hk
    · by_cases e : b = a
      · cases e
        rw [if_pos rfl] at z
        cases z
        exact ⟨ha, by rw [List.length_map]; exact hl, vs, _, rv, ha⟩
      · rw [if_neg e] at z
        cases z
    · by_cases e : b = a
      · exact e
      · exact (z (if_neg e)).elim
  · have e := KX a o hk
    rw [ha] at e
    cases e
    have on : Only (fun _ => none) := fun _ => .inl rfl
    exact law_at KX hns hb hbb hlim hgen ha hr F hbind (hsp _ on (.inr ⟨_, vs.toArray, _, hk, rfl, rfl, rfl, by rw [List.size_toArray, hlen]; exact hl, by simpa using rv⟩)) (hCX _) on (fun b u z => nomatch (show (none : Option HO) = some u from z)) (fun b z => absurd rfl z) fun z => absurd rfl z

theorem walk_g {l : PySem.W.OpenLaw} {n k : Nat} {q : Program} {loose : List Str} {XP : (Str → Option Value) → Heap → Prop} {YP : World → Heap → Prop} {d : DefRec} {K : Params → PySem.W.Frag} {CX : CXT} {sp : PySem.W.Frag → Sp} {x : Str}
    (hn : l.most = some n) (hn2 : n ≤ sizeLine) (hdf : d.params.defaults = []) (hr : Room k callerA) (hY : ∀ (w : World) (h : Heap), YP w h → (K w.params).In h)
    (F : ∀ (w : World) (mg : Str → Option Value) (fa : Addr) (h : Heap), (K w.params).In h → h.Ns mainGlobals mg → mg d.name = some (.ref fa) →
      ∃ fd : FuncData, (∀ (s : Shared) (u : Value), BindsTo s fd ⟨[u], []⟩ [(x, u)]) ∧ ∀ base : Heap, (K w.params).In base → base.Ns mainGlobals mg → FnG l.prog w (K w.params) mg base CX k fa fd [x] (sp (K w.params)))
    (hsp : ∀ (K : PySem.W.Frag) (H : Hp) (a : Addr) (ns : List Int), ns.length ≤ n → Only H → SqL K H a (ns.map V.int) → sp K [.ref a] H (fun v _ => v = .bl true) fun _ _ _ => False)
    (hCX : ∀ (H : Hp) (s : Shared) (e : Value) (s' : Shared), CX [] H s (fun _ _ _ => False) e s' → False) : PySem.W.WalkO q loose XP YP l.row.toRowW d [] (fun f vs => PySem.call f vs) := by
  apply Att.attach_call hn hdf
  intro w s0 s1 mg mb fa o pm cd doc a vs ns G Y ho hd hcd hmg hobj hints hlen hg
  obtain ⟨fd, hb, hF⟩ := F w mg fa _ (hY w _ Y) G.T.g hmg
  exact law_g (hY w _ Y) G.T.g G.T.b G.T.builtins G.T.nolimit hg hobj hints (Nat.le_trans hlen hn2) hr hF hb (fun H hO hS => hsp _ H a ns hlen hO hS) fun H e s' => hCX H s1 e s'
end Rw
/-! own layer: exceptions of one field, as values and caught -/
namespace Rw
open PySem PySem.Spec PySem.Calls PyProof.Rows
open PySem.HandSPX (refsVE refsVE_contains excO)
section
variable {M : Model} {prog : Program} {w : World} {A : Around} {E : Value → Shared → Prop} {R : Result → Shared → Prop} {h : Heap} {g : Array GenState} {d : Drawn} {t : Nat} {os : OsState}
variable {nm q : Str} {C N : Addr} {bs bm bmB : List Value} {hdct : Bool} {sn : List Str} {sub : List Value} {ab : Bool} {col : Option Bool} {dd : Option Addr} {k0 k1 k2 k3 k5 : Option Value} {B newId initId : String} {rest : List Value} {kw : List (Str × Value)}
/-- the check ahead of __new__, keywords too -/
theorem xnew_check (F : ExcBaseFacts B newId initId bmB) (hT : ∀ X : String, bm.contains (.type X) = bmB.contains (.type X)) {Q : Unit → Shared → Prop} (hC : h.get? C = some (excClassObj nm q C N bs bm hdct sn sub ab col dd k0 k1 k2 k3 k5 newId))
    (hq : Q () ⟨h, g, d, t, os⟩) : wpAny M A (checkBuiltinCall newId ⟨.ref C :: rest, kw⟩) Q E ⟨h, g, d, t, os⟩ := by
  have hb : (Value.ref C :: bm).contains (.type B) = true := by rw [List.contains_cons, hT, F.hasB, Bool.or_true]
  have := F.noStar
  simp only [checkBuiltinCall, F.newKind, F.newSplit, F.newRow]
  repeat (first | with_reducible refine wpAny_loadPart_at hC ?_ | (refine wpAny_isSubtype_exc hC ?_; rw [hb]) | with_reducible refine wpAny_staticBase_exc hC ?_ | with_reducible refine wpAny_madeBy_exc hC ?_ | simp only [bne_self_eq_false, Bool.false_eq_true, if_false] | wp_step)
  exact hq
theorem xnew (F : ExcBaseFacts B newId initId bmB) (hT : ∀ X : String, bm.contains (.type X) = bmB.contains (.type X)) (hC : h.get? C = some (excClassObj nm q C N bs bm hdct sn sub ab col dd k0 k1 k2 k3 k5 newId))
    (hq : R (.ok (.ret (.ref (h.objs.size + 1)))) ⟨(h.push (W.kdv_tup rest)).push (excO C h.objs.size), g, d, t, os⟩) (hl : rest.length ≤ sizeLine) : codeAny (model prog w) A (.builtin newId ⟨.ref C :: rest, kw⟩) R ⟨h, g, d, t, os⟩ := by
  have he := F.ends
  have h1 : (Value.ref C :: bm).contains (.type B) = true := by rw [List.contains_cons, hT, F.hasB, Bool.or_true]
  have h2 : (Value.ref C :: bm).contains (.type "AttributeError") = false := by rw [List.contains_cons, hT, F.noAttr]; rfl
  have h3 : (Value.ref C :: bm).contains (.type "NameError") = false := by rw [List.contains_cons, hT, F.noName]; rfl
  apply codeAny_builtinAt F.entry
  unfold Builtin.«BaseException.__new__»
  apply PySem.wpAt_bind
  show PySem.wpAt _ _ _ (stack >>= _) _ _ _
  refine PySem.wpAt_bind (PySem.wpAt_stack fun p below => PySem.wpAt_of_wpAny ?_)
  wp_walk
  apply PySem.wpAt_of_wpAny
  rw [F.owner]
  repeat (first | with_reducible refine wpAny_madeHere_exc F.canon hC ?_ | with_reducible refine wpAny_loadPart_at hC ?_ | (with_reducible refine wpAny_isSubtype_exc hC ?_; first | rw [h1] | rw [h2] | rw [h3]) | wp_step)
  show R _ _
  rw [Heap.size_push]
  exact hq
/-- C(..), C's own __init__ is called on the new exception -/
theorem xcall (F : ExcBaseFacts B newId initId bmB) (hT : ∀ X : String, bm.contains (.type X) = bmB.contains (.type X)) {fI : Addr} (hC : h.get? C = some (excClassObj nm q C N bs bm hdct sn sub ab col dd k0 k1 k2 k3 k5 newId))
    (hi : W.Looks (model prog w) h (typeLookup (.ref C) "__init__") (some (.ref fI))) (hb : ∀ self, W.Looks (model prog w) h (bindSpecial (.ref fI) self) (.ref fI, [self])) (hl : rest.length ≤ sizeLine)
    (hq : codeAny (model prog w) (A.under (.builtin "type.__call__" ⟨.ref C :: rest, kw⟩)) (.call (.ref fI) ⟨.ref (h.objs.size + 1) :: rest, kw⟩) (W.InitBack (h.objs.size + 1) R) ⟨(h.push (W.kdv_tup rest)).push (excO C h.objs.size), g, d, t, os⟩) :
    codeAny (model prog w) A (.call (.ref C) ⟨rest, kw⟩) R ⟨h, g, d, t, os⟩ := by
  have f1 := tc_lookup
  have f2 := tc_bind (.ref C)
  have hTy : (⟨h, g, d, t, os⟩ : Shared).TypeIs (.ref C) "type" := ⟨_, hC, rfl⟩
  apply codeAny_of_tree
  show wpAny _ _ (callAny (.ref C) _) _ _ _
  repeat (any_goals (first | assumption | with_reducible refine wpAny_loadPart_at hC ?_ | wp_step))
  refine ⟨rfl, codeAny_call_builtin_at (Code.quiet_builtin _ (by decide +kernel)) entry_typeCall ?_⟩
  have f3 := tc_sub
  simp only [checkBuiltinCall, tc_kind, tc_split]
  repeat (any_goals (first | assumption | with_reducible refine wpAny_loadPart_at hC ?_ | with_reducible refine wpAny_onRaise ?_ | with_reducible refine wpAny_map ?_ | wp_step))
  refine codeAny_call_builtin_code (Code.quiet_builtin _ F.quiet) (xnew_check F hT hC ?_)
  refine xnew F hT hC ?_ hl
  show wpAny _ _ _ _ _ _
  have k : ∀ b o, h.get? b = some o → ((h.push (W.kdv_tup rest)).push (excO C h.objs.size)).get? b = some o := fun b o e => Heap.get?_push_of_some _ (Heap.get?_push_of_some _ e)
  have h1 := k _ _ hC
  have h2 : ((h.push (W.kdv_tup rest)).push (excO C h.objs.size)).get? (h.objs.size + 1) = some ({ cls := .ref C, data := .fields #[.ref h.objs.size, .none, .none, .none, .bool false, .none] } : Obj) := by heap_get
  have h3 : (Value.ref C :: bm).contains (.ref C) = true := by simp
  have i1 := hi.keeps k
  have b1 := (hb (.ref (h.objs.size + 1))).keeps k
  unfold isInstance
  repeat (first | with_reducible refine wpAny_loadPart_at h2 ?_ | (refine wpAny_isSubtype_exc h1 ?_; rw [h3]) | wp_step)
  show wpAny _ _ (typeLookup (.ref C) _) _ _ _
  refine i1.at (wpAny_holding (wpAny_bind (b1.at (wpAny_bind (wpAny_call (codeAny_mono hq ?_))))))
  rintro (e | fl) s' z
  · exact z
  · cases fl <;> first | exact z.elim | skip
    obtain ⟨rfl, z⟩ := z
    first
      | exact wpAny_pure (wpAny_pure z)
      | (wp_walk; exact z)
end
end Rw
namespace Rw
open PySem PySem.Spec PySem.Calls PyProof.Rows L2
open PySem.W (findIn findObj takesIn specialIn mroIn clsIn hasDictIn subIn typeIn)
section
variable {prog : Program} {w : World} {A : Around} {E : Value → Shared → Prop} {s : Shared} {K : PySem.W.Frag} {x D : Addr} {ox : Obj} {od : Option Obj}
/-- e.__class__ of an exception, whatever its own dict holds -/
theorem xcls {Q : Option Value → Shared → Prop} (T : ExcC K D) (X : K.In s.heap) (I : PySem.W.InstAt s.heap x ox D od) (h : Q (some (.ref D)) { s with toks := s.toks + 1 }) : wpAny (model prog w) A (getAttr? (.ref x) "__class__") Q E s := by
  obtain ⟨ga, gt, su, hd, ha, hn, ht, hm⟩ := T
  have hf : findObj K D od "__class__" = some (.bind (.builtin "getset_descriptor.__get__") (.builtin "object.__class__")) := by
    obtain ⟨cd, hc, _⟩ := PySem.W.any_some hd
    simp [findObj, hc, ha, hn, ht]
  obtain ⟨hp, g, d, t, os⟩ := s
  have l0 := I.type (M := model prog w)
  have l1 := PySem.W.looks_findIn (M := model prog w) X ga
  have l2 := PySem.W.looks_findIn (M := model prog w) X gt
  have l3 := PySem.W.looks_find (M := model prog w) X I hf
  have sb : PySem.W.Looks (model prog w) hp (isInstance (.ref x) (.type "BaseException")) true := l0.andThen (PySem.W.looks_subIn X su)
  have n0 : (false && onTheHeap (Value.builtin "BaseException.__getattribute__")) = false := rfl
  have n1 : (onTheHeap (Value.ref D) && Value.builtin "BaseException.__getattribute__" == Value.builtin "object.__getattribute__") = false := by
    rw [show (Value.builtin "BaseException.__getattribute__" == Value.builtin "object.__getattribute__") = false by decide +kernel, Bool.and_false]
  unfold getAttr? getAttrBy? getAttrBy
  refine wpAny_bind (wpAny_mkText (wpAny_bind (wpAny_attempt (wpAny_holding (wpAny_bind (l0.at (wpAny_bind (l1.at ?_))))))))
  refine PySem.W.KFB.if_not n1 ?_
  unfold getAttrByItsOwn hookBefore
  apply wpAny_bind
  refine PySem.W.KFB.if_so rfl (l2.at (wpAny_bind (wpAny_attempt (wpAny_holding ?_))))
  unfold callGetattribute
  refine PySem.W.KFB.if_not n0 ?_
  unfold boundAndCalled
  rw [PySem.F.excAttr_ValueError.ga.bind (.ref x)]
  refine wpAny_bind (wpAny_pure (wpAny_call (codeAny_call_builtin PySem.F.excAttr_ValueError.ga.plain PySem.F.entry_bexc_ga ?_)))
  refine @PySem.W.check_slot (model prog w) _ _ ⟨hp, g, d, t + 1, os⟩ "BaseException.__getattribute__" "BaseException" "__getattribute__" (.ref x) [.str "__class__" t] [] _ (by decide +kernel) (by decide +kernel) sb (PySem.F.args_bexc_ga _ _) ?_
  unfold Builtin.«object.__getattribute__»
  refine wpAny_bind (wpAny_of_eq (a := ((Value.ref x : Value), [Value.str "__class__" t])) (by first | rfl | (simp only [slotArgs]; rfl)) ?_)
  refine wpAny_bind (wpAny_pure (wpAny_bind (l0.at (wpAny_bind (l3.at ?_)))))
  refine (show wpAny _ _ (holding [Value.builtin "object.__class__"] (call (.builtin "getset_descriptor.__get__") [.builtin "object.__class__", .ref x, .ref D]) >>= ret) _ _ _ from wpAny_bind (wpAny_holding (wpAny_call (PySem.W.class_get (s := ⟨hp, g, d, t + 1, os⟩) X I hm (wpAny_pure ?_)))))
  refine (show wpAny _ _ (handedOut (.ref D)) _ _ _ from ?_)
  rw [PySem.W.handedOut_of (v := .ref D) rfl]
  first
    | exact wpAny_pure (wpAny_pure h)
    | exact wpAny_pure h
    | exact wpAny_pure (wpAny_bind (wpAny_pure (wpAny_pure h)))
theorem xkit (T : ExcC K D) : PySem.W.KitX K (.ref x) (.ref D) (fun h => ∃ ox od, PySem.W.InstAt h x ox D od) := by
  obtain ⟨cd, hc, _⟩ := PySem.W.any_some T.hd
  have at_cls : ∃ c' d' cd' sl', K.lookup D = some ⟨c', d', .cls cd', sl'⟩ := by
    unfold clsIn at hc
    split at hc
    · exact ⟨_, _, _, _, by assumption⟩
    · cases hc
  obtain ⟨c', d', cd', sl', ho⟩ := at_cls
  constructor
  · rintro M h X ⟨ox, od, I⟩
    exact I.type
  · intro M h X _ A' Q' E' s' k q
    unfold isType loadHead
    exact wpAny_bind (wpAny_loadPart (k _ _ (X _ _ ho)) (wpAny_pure q))
  · intro h tp dd its n sl X htp
    cases e : (Value.ref D == .ref tp) with
    | false => rfl
    | true =>
      cases Value.ref.inj (beq_iff_eq.mp e)
      rw [X _ _ ho] at htp
      cases htp
  · rintro prog w A E Q s X ⟨ox, od, I⟩ k
    exact xcls T X I k
end

/-! ### an exception of one field as a value -/
/-- at a an exception of C, its own dict at dx holds v as f -/
def exH (H : Hp) (C : Addr) (f : Str) (v : V) (a dx : Addr) : Hp := upd (upd H dx (exd dx [(f, v)])) a (exo a C (some dx))
structure ExAt (H : Hp) (C : Addr) (f : Str) (v : V) (a dx : Addr) : Prop where
  e : H a = some (exo a C (some dx))
  d : H dx = some (exd dx [(f, v)])
theorem exH_at {H : Hp} {C : Addr} {f : Str} {v : V} {a dx : Addr} (h : dx ≠ a) : ExAt (exH H C f v a dx) C f v a dx := ⟨upd_same, (upd_ne h).trans upd_same⟩
theorem exH_old {H : Hp} {C : Addr} {f : Str} {v : V} {a dx b : Addr} {o : HO} (ha : H a = none) (hd : H dx = none) (h : H b = some o) : exH H C f v a dx b = some o := by
  rw [exH, upd_ne (ne_of_none h ha), upd_ne (ne_of_none h hd)]
  exact h
theorem exH_over {H : Hp} {C : Addr} {f : Str} {v : V} {a dx : Addr} {o : HO} (h : dx ≠ a) : exH (upd H a o) C f v a dx = exH H C f v a dx := by
  funext b
  unfold exH upd
  by_cases e1 : b = a
  · simp [e1]
  · by_cases e2 : b = dx <;> simp [e1, e2]
/-- what the written part says of such a class -/
structure ExT (K : PySem.W.Frag) (C fI : Addr) (f : Str) : Prop where
  o : OexC K C
  x : XfC K C
  c : ExcC K C
  i : findIn K (.ref C) "__init__" = some (some (.ref fI))
  t : typeIn K (.ref fI) = some (.type "function")
  no : findIn K (.ref C) f = some none
structure ExT0 (K : PySem.W.Frag) (C fI : Addr) : Prop where
  o : OexC K C
  x : XfC K C
  c : ExcC K C
  i : findIn K (.ref C) "__init__" = some (some (.ref fI))
  t : typeIn K (.ref fI) = some (.type "function")
/-- what __init__(self, f) does: self.f = f -/
def spXI (C : Addr) (f : Str) : Sp := fun vs H Q _ => ∃ a v, vs = [.ref a, v] ∧ H a = some (exo a C none) ∧ ∀ dx, H dx = none → dx ≠ a → Q .non (exH H C f v a dx)
theorem ok_xi {P : Program} {w : World} {K : PySem.W.Frag} {mg : Str → Option Value} {base : Heap} {ql f : Str} {st : Stmt} {C fI : Addr} {fd : FuncData} {q1 q2 q3 q4 : Pos} (F : Fun K "__init__" ql st fI fd) (T : ExT K C fI f) (S : FnScope ["self", f] ["self", f] (defScope st))
    (hb : defBody st = [.Assign [.Attribute (.Name "self" q1) f q2] (.Name f q3) q4]) (hd : (f == ("__debug__" : Str)) = false) (hd2 : (f == ("__classdict__" : Str)) = false) : FnOk P w K mg base CX0 1 fI fd ["self", f] (spXI C f) := by
  have loc : ∀ y ∈ (["self", f] : List Str), Vis (defScope st) y := fun y hy => (S.par y hy).imp id .inl
  refine F.ok S (fun vs H Q E h => ?_) (fun cdv A ou s H vs Q E hr h => ?_)
  · obtain ⟨a, v, rfl, _⟩ := h
    rfl
  · obtain ⟨a, v, rfl, ha, k⟩ := h
    rw [hb]
    refine ⟨_, pss_one (ps_ost (pe_var (i := 0) rfl (loc _ (by simp))) (pe_var (i := 1) rfl (loc _ (by simp)) hd hd2)), ?_⟩
    exact ⟨_, rfl, _, rfl, a, C, rfl, T.o, T.no, .inl ⟨ha, fun dx n ne => k dx n ne⟩⟩
section
variable {X : Cx} {C fI : Addr} {f x : Str} {fd : FuncData} {p pos : Pos} {e : Expr} {te : TE} {ta : TA} {k : Nat}
/-- a new exception of one field -/
def tEx1 (C : Addr) (f : Str) (ta : TA) : TE := fun σ H Q => ta σ H fun vs H1 => ∃ v, vs = [v] ∧ ∀ a dx, H1 a = none → H1 dx = none → dx ≠ a → Q (.ref a) (exH H1 C f v a dx)
theorem run_ex {pins : List (Addr × Obj)} {σ : L2.St} {H : Hp} {s : Shared} {Q : VK} {us : List Value} {kw : List (Str × Value)} {u : Value} {v : V} (T : ExT X.K C fI f) (F : FnOk X.prog X.w X.K X.mg X.base CX0 1 fI fd ["self", f] (spXI C f)) (hr : Room 2 X.A)
    (hb : ∀ (s : Shared) (a : Value), BindsTo s fd ⟨a :: us, kw⟩ [("self", a), (f, u)]) (hl : us.length ≤ 1) (I : Inv X pins σ H s) (r : RelV v u) (h : ∀ a dx, H a = none → H dx = none → dx ≠ a → Q (.ref a) (exH H C f v a dx)) :
    wpAny (model X.prog X.w) X.A (call (.ref C) us kw) (EP X pins σ Q) X.xe s := by
  obtain ⟨nm, q, N, bs, bm, sn, sub, ab, col, dd, k0, k1, k2, k3, k5, hC, hbm⟩ := T.o.cls
  obtain ⟨hp, g, dr, tk, os⟩ := s
  have kk : ∀ b o, hp.get? b = some o → ((hp.push (PySem.W.kdv_tup us)).push (PySem.HandSPX.excO C hp.objs.size)).get? b = some o := fun b o z => Heap.get?_push_of_some _ (Heap.get?_push_of_some _ z)
  have hget : ((hp.push (PySem.W.kdv_tup us)).push (PySem.HandSPX.excO C hp.objs.size)).get? (hp.objs.size + 1) = some (PySem.HandSPX.excO C hp.objs.size) := by heap_get
  have hn : H (hp.objs.size + 1) = none := I.hok.fresh (Nat.le_succ _)
  have I2 : Inv X pins σ (upd H (hp.objs.size + 1) (exo (hp.objs.size + 1) C none)) ⟨(hp.push (PySem.W.kdv_tup us)).push (PySem.HandSPX.excO C hp.objs.size), g, dr, tk, os⟩ :=
    I.laid (t' := tk) (a := hp.objs.size + 1) (o := exo (hp.objs.size + 1) C none) kk (Nat.le_succ _) (exo_ok hget)
  have r2 : Vals [V.ref (hp.objs.size + 1), v] [Value.ref (hp.objs.size + 1), u] := .cons rfl (.cons r .nil)
  have sp : spXI C f [V.ref (hp.objs.size + 1), v] (upd H (hp.objs.size + 1) (exo (hp.objs.size + 1) C none)) (fun v2 H2 => v2 = .non ∧ Q (.ref (hp.objs.size + 1)) H2) (fun _ _ _ => False) := by
    refine ⟨_, v, rfl, upd_same, fun dx n ne => ⟨rfl, ?_⟩⟩
    rw [exH_over ne]
    refine h _ dx hn ?_ ne
    rw [upd_ne ne] at n
    exact n
  refine wpAny_call (xcall PySem.F.excBase_ValueError (fun Y => PySem.HandSPX.refsVE_contains Y bm hbm) (I.kIn _ _ hC) (PySem.W.looks_findIn I.kIn T.i) (fun self => PySem.W.bind_fn I.kIn self T.t) (Nat.le_trans hl (by decide)) ?_)
  refine codeAny_mono (F.run _ X.stack _ _ ⟨Value.ref (hp.objs.size + 1) :: us, kw⟩ [Value.ref (hp.objs.size + 1), u] _ _ (fun _ _ _ => False) (hr.make C us kw) (I2.env0.make C us kw) (hb _ _) r2 sp) ?_
  rintro (er | fl) s' hq
  · exact hq.elim
  · cases fl <;> first | exact hq.elim | skip
    obtain ⟨v2, H2, I3, rv, ev, q3⟩ := I2.after hq
    subst ev
    exact ⟨rv, ⟨V.ref (hp.objs.size + 1), H2, I3, rfl, q3⟩⟩
/-- C(e) -/
theorem pe_ex1 (T : ExT X.K C fI f) (F : FnOk X.prog X.w X.K X.mg X.base CX0 1 fI fd ["self", f] (spXI C f)) (hr : Room 2 X.A) (hb : ∀ (s : Shared) (a u : Value), BindsTo s fd ⟨[a, u], []⟩ [("self", a), (f, u)]) (hg : Gl X x) (hm : X.mg x = some (.ref C)) (ha : PE X e te)
    (hdb : (x == ("__debug__" : Str)) = false := by decide) (he : starEach (e :: []) X.env = (false, eval e X.env) :: starEach [] X.env := by rfl) (hpl : (backTo pos (starEach [] X.env)).any (·.1) = false := by rfl) : PE X (.Call (.Name x p) [e] [] pos) (tEx1 C f (tCons te tNil)) := by
  constructor
  intro pins s σ H Q I h
  apply wpAny_Call_Name_kw
  refine ld_glob I hg hm (PySem.W.callWith_K (h₀ := X.base) I.ok.mod.kin T.o.kC (thn ((pa_cons ha pa_nil he).run pos pins s σ H _ I h) ?_) he hpl) hdb
  rintro us s1 ⟨vs, H1, I1, r, v, ev, q⟩
  subst ev
  obtain ⟨u, rfl, ru⟩ := vals1 r
  exact ⟨I1.kIn, run_ex (us := [u]) (kw := []) T F hr (fun s a => hb s a u) (Nat.le_of_ble_eq_true rfl) I1 ru q⟩
/-- C(f=e) -/
theorem pe_ex1k {kpos : Pos} (T : ExT X.K C fI f) (F : FnOk X.prog X.w X.K X.mg X.base CX0 1 fI fd ["self", f] (spXI C f)) (hr : Room 2 X.A) (hb : ∀ (s : Shared) (a u : Value), BindsTo s fd ⟨[a], [(f, u)]⟩ [("self", a), (f, u)]) (hg : Gl X x) (hm : X.mg x = some (.ref C)) (ha : PE X e te)
    (hdb : (x == ("__debug__" : Str)) = false := by decide) : PE X (.Call (.Name x p) [] [⟨some f, e, kpos⟩] pos) (tEx1 C f (tCons te tNil)) := by
  constructor
  intro pins s σ H Q I h
  apply wpAny_Call_Name_kw
  refine ld_glob I hg hm (PySem.W.callWith_KW0 (h₀ := X.base) I.ok.mod.kin T.o.kC rfl (thn ((pk_cons ha pk_nil).run pos pins s σ H _ I h) ?_) rfl) hdb
  rintro us s1 ⟨vs, H1, I1, r, v, ev, q⟩
  subst ev
  obtain ⟨u, rfl, ru⟩ := vals1 r
  exact ⟨I1.kIn, run_ex (us := []) (kw := [(f, u)]) T F hr (fun s a => hb s a u) (Nat.le_of_ble_eq_true rfl) I1 ru q⟩
/-- what __init__(self): pass does -/
def spXI0 (C : Addr) : Sp := fun vs H Q _ => ∃ a, vs = [.ref a] ∧ H a = some (exo a C none) ∧ Q .non H
def tEx0 (C : Addr) : TE := fun _ H Q => ∀ a, H a = none → Q (.ref a) (upd H a (exo a C none))
/-- C() -/
theorem pe_ex0 (T : ExT0 X.K C fI) (F : FnOk X.prog X.w X.K X.mg X.base CX0 1 fI fd ["self"] (spXI0 C)) (hr : Room 2 X.A) (hb : ∀ (s : Shared) (a : Value), BindsTo s fd ⟨[a], []⟩ [("self", a)]) (hg : Gl X x) (hm : X.mg x = some (.ref C))
    (hdb : (x == ("__debug__" : Str)) = false := by decide) : PE X (.Call (.Name x p) [] [] pos) (tEx0 C) := by
  constructor
  intro pins s σ H Q I h
  apply wpAny_Call_Name_kw
  refine ld_glob I hg hm (PySem.W.callWith_K0 I.kIn T.o.kC ?_) hdb
  obtain ⟨nm, q, N, bs, bm, sn, sub, ab, col, dd, k0, k1, k2, k3, k5, hC, hbm⟩ := T.o.cls
  obtain ⟨hp, g, dr, tk, os⟩ := s
  have kk : ∀ b o, hp.get? b = some o → ((hp.push (PySem.W.kdv_tup [])).push (PySem.HandSPX.excO C hp.objs.size)).get? b = some o := fun b o z => Heap.get?_push_of_some _ (Heap.get?_push_of_some _ z)
  have hget : ((hp.push (PySem.W.kdv_tup [])).push (PySem.HandSPX.excO C hp.objs.size)).get? (hp.objs.size + 1) = some (PySem.HandSPX.excO C hp.objs.size) := by heap_get
  have I2 : Inv X pins σ (upd H (hp.objs.size + 1) (exo (hp.objs.size + 1) C none)) ⟨(hp.push (PySem.W.kdv_tup [])).push (PySem.HandSPX.excO C hp.objs.size), g, dr, tk, os⟩ :=
    I.laid (t' := tk) (a := hp.objs.size + 1) (o := exo (hp.objs.size + 1) C none) kk (Nat.le_succ _) (exo_ok hget)
  have r2 : Vals [V.ref (hp.objs.size + 1)] [Value.ref (hp.objs.size + 1)] := .cons rfl .nil
  have sp : spXI0 C [V.ref (hp.objs.size + 1)] (upd H (hp.objs.size + 1) (exo (hp.objs.size + 1) C none)) (fun v2 H2 => v2 = .non ∧ Q (.ref (hp.objs.size + 1)) H2) (fun _ _ _ => False) :=
    ⟨_, rfl, upd_same, rfl, h _ (I.hok.fresh (Nat.le_succ _))⟩
  refine wpAny_call (xcall PySem.F.excBase_ValueError (fun Y => PySem.HandSPX.refsVE_contains Y bm hbm) (I.kIn _ _ hC) (PySem.W.looks_findIn I.kIn T.i) (fun self => PySem.W.bind_fn I.kIn self T.t) (Nat.zero_le _) ?_)
  refine codeAny_mono (F.run _ X.stack _ _ ⟨[Value.ref (hp.objs.size + 1)], []⟩ [Value.ref (hp.objs.size + 1)] _ _ (fun _ _ _ => False) (hr.make C [] []) (I2.env0.make C [] []) (hb _ _) r2 sp) ?_
  rintro (er | fl) s' hq
  · exact hq.elim
  · cases fl <;> first | exact hq.elim | skip
    obtain ⟨v2, H2, I3, rv, ev, q3⟩ := I2.after hq
    subst ev
    exact ⟨rv, ⟨V.ref (hp.objs.size + 1), H2, I3, rfl, q3⟩⟩
/-- e.f, e a value that is an exception -/
def tExF (n : Str) (K : PySem.W.Frag) (te : TE) : TE := fun σ H Q => te σ H fun x H1 => ∃ C a dx f v, x = .ref a ∧ ExAt H1 C f v a dx ∧ XfC K C ∧ findIn K (.ref C) n = some none ∧ n = f ∧ Q v H1
theorem pe_exf {n : Str} (he : PE X e te) (hb : attributeBase e n X.env (eval e X.env) = eval e X.env := by rfl) : PE X (.Attribute e n pos) (tExF n X.K te) := by
  constructor
  intro pins s σ H Q I h
  refine attr_of hb (thn (he.run pins s σ H _ I h) ?_)
  rintro u s1 ⟨x, H1, I1, rx, C, a, dx, f, v, rfl, ⟨h1, h2⟩, T, no, rfl, q⟩
  cases (show u = Value.ref a from rx)
  obtain ⟨t1, ho⟩ := exo_at I1.hok h1
  obtain ⟨mA, hns, rel⟩ := exd_at I1.hok h2
  obtain ⟨od, hod, hl⟩ := lookIn_ns hns
  obtain ⟨z, hz, rz⟩ := RelO.some_of (v := v) (o := mA n) (by have := rel n; simpa [List.lookup] using this)
  exact HandSPX.exc_get I1.kIn (ox := { cls := .ref C, dict := some dx, data := .fields #[.ref t1, .none, .none, .none, .bool false, .none] }) (od := some od) ⟨ho, rfl, rfl, hod⟩ T.ga T.gg T.exC (PySem.W.findObj_own T.hdC no rfl (by rw [hl, hz])) (handed_of rz) ⟨v, H1, I1.tok _, rz, q⟩
/-- isinstance(e, c), e a value that is an exception -/
def rIsX (K : PySem.W.Frag) : List V → Hp → VK → Prop := fun xs H Q => ∃ (c : V) (cv : Value) (b : Bool) (a D : Addr) (d : Option Addr), xs = [.ref a, c] ∧ H a = some (exo a D d) ∧ (∀ dx, d = some dx → ∃ fs, H dx = some (exd dx fs)) ∧ ExcC K D ∧ ClsV c cv ∧ PySem.W.kitOne K (.ref D) cv = some b ∧ Q (.bl b) H
theorem call_isX : CallR X (.builtin "isinstance") (rIsX X.K) := by
  intro pins s σ H xs us Q I r h
  obtain ⟨c, cv, b, a, D, d, rfl, ha, hd, T, hc, e, q⟩ := h
  obtain ⟨u1, u2, rfl, r1, r2⟩ := vals2 r
  cases (show u1 = Value.ref a from r1)
  cases hc.eq r2
  obtain ⟨t1, ho⟩ := exo_at I.hok ha
  have J : ∃ ox od, PySem.W.InstAt s.heap a ox D od := by
    cases d with
    | none => exact ⟨_, none, ho, rfl, rfl, trivial⟩
    | some dx =>
      obtain ⟨fs, h2⟩ := hd dx rfl
      obtain ⟨mA, hns, _⟩ := exd_at I.hok h2
      obtain ⟨od, hod, _⟩ := lookIn_ns hns
      exact ⟨_, some od, ho, rfl, rfl, hod⟩
  exact PySem.W.kia_one (xkit T) I.kIn J e (fun z => nomatch z) fun tk => ⟨.bl b, H, I.kept (t' := tk) fun _ _ z => z, rfl, q⟩
end
/-- isinstance against an own class, a class of the library, by what is a subclass of what -/
theorem kit_sub {K : PySem.W.Frag} {C D : Addr} {b : Bool} (hd : hasDictIn K C = true) (ht : typeIn K (.ref C) = some (.type "type")) (hs : subIn K (.ref C) (.ref C) = some true) (h : subIn K (.ref D) (.ref C) = some b) : PySem.W.kitOne K (.ref D) (.ref C) = some b := by
  unfold PySem.W.kitOne
  by_cases e : D = C
  · cases e
    cases (Option.some.inj (h.symm.trans hs))
    rw [if_pos (by simp)]
  · obtain ⟨cd, hc, _⟩ := PySem.W.any_some hd
    rw [if_neg (by simpa using e), PySem.W.kitCls, hc, ht]
    exact h
theorem kit_subT {K : PySem.W.Frag} {D : Addr} {n : String} {b : Bool} (hm : PySem.W.kitMeta n = true) (h : subIn K (.ref D) (.type n) = some b) : PySem.W.kitOne K (.ref D) (.type n) = some b := by
  unfold PySem.W.kitOne
  rw [if_neg (by simp), PySem.W.kitCls, if_pos hm]
  exact h
end Rw
/-! own layer: data in heaps where only told addresses change; boxes of draws; how long data is when shown -/
namespace Rw
open PySem PySem.Spec PyProof.Rows L2

/-! ### what stays -/
/-- all that is tracked stays, but for M -/
def Kp (M : Addr → Prop) (H H' : Hp) : Prop := ∀ a o, H a = some o → ¬ M a → H' a = some o
section
variable {M M' : Addr → Prop} {H H1 H2 : Hp} {p : Addr} {o : HO}
theorem Kp.rf : Kp M H H := fun _ _ h _ => h
theorem Kp.tr (a : Kp M H H1) (b : Kp M H1 H2) : Kp M H H2 := fun x o h m => b x o (a x o h m) m
theorem Kp.nw (a : Kp M H H1) (h : H1 p = none) : Kp M H (upd H1 p o) := fun x u hx m => by
  have := a x u hx m
  rw [upd_ne (ne_of_none this h)]
  exact this
theorem Kp.wr (a : Kp M H H1) (h : M p) : Kp M H (upd H1 p o) := fun x u hx m => by
  rw [upd_ne (show x ≠ p from fun e => m (by rw [e]; exact h))]
  exact a x u hx m
/-- what was not tracked may be written -/
theorem Kp.wn (a : Kp M H H1) (h : H p = none) : Kp M H (upd H1 p o) := fun x u hx m => by
  rw [upd_ne (ne_of_none hx h)]
  exact a x u hx m
theorem Kp.mn (a : Kp M H H1) (h : ∀ x, M x → M' x) : Kp M' H H1 := fun x u hx m => a x u hx fun z => m (h x z)
theorem Kp.of (a : Same H H1) : Kp M H H1 := fun x u hx _ => a x u hx
theorem Kp.back (a : Kp M H H1) (hm : ¬ M p) (h : H1 p = none) : H p = none := by
  cases e : H p with
  | none => rfl
  | some u => rw [a p u e hm] at h; cases h
theorem Kp.sql {K : PySem.W.Frag} {xs : List V} {a : Addr} (e : Kp M H H1) (hm : ¬ M a) (h : SqL K H a xs) : SqL K H1 a xs := by
  rcases h with (h | ⟨o, h⟩) | h
  · exact .inl (.inl (e _ _ h hm))
  · exact .inl (.inr ⟨o, e _ _ h hm⟩)
  · exact .inr h
theorem Kp.sqt {K : PySem.W.Frag} {xs : List V} {a : Addr} (e : Kp M H H1) (hm : ¬ M a) (h : SqT K H a xs) : SqT K H1 a xs := by
  rcases h with (h | ⟨o, h⟩) | h
  · exact .inl (.inl (e _ _ h hm))
  · exact .inl (.inr ⟨o, e _ _ h hm⟩)
  · exact .inr h
/-- a new object is at no told place that is tracked -/
theorem nw1 {a : Addr} {u : HO} (hp : H p = none) (h : H a = some u) : p ≠ a := (ne_of_none h hp).symm
theorem nw2 {a : Addr} {u : HO} (hp : H p = none) (h : H a = some u) : a ≠ p := ne_of_none h hp
theorem nw_ne {a : Addr} {u : HO} (h : H a = some u) (hp : H p = none) : p ≠ a := (ne_of_none h hp).symm
end

theorem sz {n : Nat} (h : n ≤ 1000000) : n ≤ sizeLine := Nat.le_trans h (by decide)
theorem szl {n : Nat} (h : n ≤ 1000000) : n < sizeLine := Nat.lt_of_le_of_lt h (by decide)
theorem same_new {H : Hp} {p : Addr} {o : HO} (h : H p = none) : Same H (upd H p o) := fun b x e => by
  rw [upd_ne (ne_of_none e h)]
  exact e
theorem yes_if {σ : L2.St} {H : Hp} {A B : Bool → Hp → Prop} (h : A true H) : tYes σ H (fun b H' => if b = true then A b H' else B b H') := h
/-! ### what is walked n turns long: a comprehension, a loop -/
theorem lc_by {J : It} {n : Nat} {g : TG} {tt : TT} {te : TE} {vs : List Nat} {σ : L2.St} {H1 : Hp} {D : Addr} {Qd : Hp → Prop} (Pv : Nat → Hp → Prop) (h0 : Pv 0 (upd H1 D (.lst []))) (hgo : ∀ i H, i < n → Pv i H → J.go i H) (hst : ∀ H, Pv n H → J.stop n H)
    (hs : ∀ i x H H', i < n → Pv i H → J.yld i H x H' → g x (wipe σ vs) H' fun σ2 H2 => wipe σ2 vs = wipe σ vs ∧ tt σ2 H2 fun b H3 => if b = true then te σ2 H3 fun y H4 => ∃ acc, H4 D = some (.lst acc) ∧ acc.length < sizeLine ∧ Pv (i + 1) (upd H4 D (.lst (acc ++ [y]))) else Pv (i + 1) H3) (hd : ∀ H, Pv n H → Qd H) :
    ∃ W : Nat → Nat → Hp → Prop, (∃ m, W 0 m (upd H1 D (.lst []))) ∧ ∀ i m H, W i m H → (J.stop i H ∧ Qd H) ∨ (J.go i H ∧ ∃ Nx : Hp → Prop, (∀ H', Nx H' → ∃ m', m' < m ∧ W (i + 1) m' H') ∧ ∀ x H', J.yld i H x H' → g x (wipe σ vs) H' fun σ2 H2 => wipe σ2 vs = wipe σ vs ∧ tt σ2 H2 fun b H3 =>
      if b = true then te σ2 H3 fun y H4 => ∃ acc, H4 D = some (.lst acc) ∧ acc.length < sizeLine ∧ Nx (upd H4 D (.lst (acc ++ [y]))) else Nx H3) :=
  ⟨fun i m H => i + m = n ∧ Pv i H, ⟨n, Nat.zero_add n, h0⟩, fun i m H ⟨hm, p⟩ => by
    rcases m with _ | m
    · cases (show i = n from hm)
      exact .inl ⟨hst H p, hd H p⟩
    · exact .inr ⟨hgo i H (by omega) p, Pv (i + 1), fun H' p' => ⟨m, Nat.lt_succ_self m, by omega, p'⟩, fun x H' y => hs i x H H' (by omega) p y⟩⟩
theorem for_by {J : It} {n : Nat} {g : TG} {tb : TS} {D : Ends} {σ : L2.St} {H : Hp} (Pv : Nat → L2.St → Hp → Prop) (h0 : Pv 0 σ H) (hgo : ∀ i σ H, i < n → Pv i σ H → J.go i H) (hst : ∀ σ H, Pv n σ H → J.stop n H)
    (hs : ∀ i x σ H H', i < n → Pv i σ H → J.yld i H x H' → g x σ H' fun σ2 H2 => tb { D with nx := Pv (i + 1), ct := Pv (i + 1), bk := D.nx } σ2 H2) (hd : ∀ σ H, Pv n σ H → D.nx σ H) :
    ∃ W : Nat → Nat → L2.St → Hp → Prop, (∃ m, W 0 m σ H) ∧ ∀ i m σ H, W i m σ H → (J.stop i H ∧ D.nx σ H) ∨ (J.go i H ∧ ∃ N : L2.St → Hp → Prop, (∀ σ' H', N σ' H' → ∃ m', m' < m ∧ W (i + 1) m' σ' H') ∧ ∀ x H', J.yld i H x H' → g x σ H' fun σ2 H2 => tb { D with nx := N, ct := N, bk := D.nx } σ2 H2) :=
  ⟨fun i m σ H => i + m = n ∧ Pv i σ H, ⟨n, Nat.zero_add n, h0⟩, fun i m σ H ⟨hm, p⟩ => by
    rcases m with _ | m
    · cases (show i = n from hm)
      exact .inl ⟨hst σ H p, hd σ H p⟩
    · exact .inr ⟨hgo i σ H (by omega) p, Pv (i + 1), fun σ' H' p' => ⟨m, Nat.lt_succ_self m, by omega, p'⟩, fun x H' y => hs i x σ H H' (by omega) p y⟩⟩
theorem idL {K : PySem.W.Frag} {H : Hp} {a : Addr} {xs : List V} (h : SqL K H a xs) : SqL K H a xs := h
theorem idT {K : PySem.W.Frag} {H : Hp} {a : Addr} {xs : List V} (h : SqT K H a xs) : SqT K H a xs := h
/-! ### data -/
mutual
inductive Dm (M : Addr → Prop) (H : Hp) : V → PyData → Prop
  | non : Dm M H .non .none
  | bl (b : Bool) : Dm M H (.bl b) (.bool b)
  | int (i : Int) : Dm M H (.int i) (.int i)
  | str (x : Str) : Dm M H (.str x) (.str x)
  | lst {a : Addr} {xs : List V} {ds : List PyData} : ¬ M a → H a = some (.lst xs) → DmAll M H xs ds → Dm M H (.ref a) (.list ds)
  | tup {a : Addr} {xs : List V} {ds : List PyData} : ¬ M a → H a = some (.tup xs) → DmAll M H xs ds → Dm M H (.ref a) (.tuple ds)
inductive DmAll (M : Addr → Prop) (H : Hp) : List V → List PyData → Prop
  | nil : DmAll M H [] []
  | cons {v : V} {vs : List V} {d : PyData} {ds : List PyData} : Dm M H v d → DmAll M H vs ds → DmAll M H (v :: vs) (d :: ds)
end
section
variable {M M' : Addr → Prop} {H H' : Hp}
mutual
theorem Dm.mv (k : ∀ a o, H a = some o → ¬ M a → H' a = some o ∧ ¬ M' a) : ∀ (d : PyData) (v : V), Dm M H v d → Dm M' H' v d
  | .none, _, h => by cases h; exact .non
  | .bool _, _, h => by cases h; exact .bl _
  | .int _, _, h => by cases h; exact .int _
  | .str _, _, h => by cases h; exact .str _
  | .list ds, _, h => by
    cases h with
    | lst hm ha hs => exact .lst (k _ _ ha hm).2 (k _ _ ha hm).1 (DmAll.mv k ds _ hs)
  | .tuple ds, _, h => by
    cases h with
    | tup hm ha hs => exact .tup (k _ _ ha hm).2 (k _ _ ha hm).1 (DmAll.mv k ds _ hs)
  | .dict _, _, h => nomatch h
theorem DmAll.mv (k : ∀ a o, H a = some o → ¬ M a → H' a = some o ∧ ¬ M' a) : ∀ (ds : List PyData) (vs : List V), DmAll M H vs ds → DmAll M' H' vs ds
  | [], _, h => by cases h; exact .nil
  | d :: ds, _, h => by
    cases h with
    | cons h1 h2 => exact .cons (Dm.mv k d _ h1) (DmAll.mv k ds _ h2)
end
theorem Dm.kp {d : PyData} {v : V} (h : Dm M H v d) (k : Kp M H H') : Dm M H' v d := Dm.mv (fun a o e m => ⟨k a o e m, m⟩) d v h
theorem DmAll.kp {ds : List PyData} {vs : List V} (h : DmAll M H vs ds) (k : Kp M H H') : DmAll M H' vs ds := DmAll.mv (fun a o e m => ⟨k a o e m, m⟩) ds vs h
/-- other places may change from now on, where nothing of it is -/
theorem Dm.wd {d : PyData} {v : V} (h : Dm M H v d) (k : ∀ a o, H a = some o → ¬ M a → ¬ M' a) : Dm M' H v d := Dm.mv (fun a o e m => ⟨e, k a o e m⟩) d v h
variable {K : PySem.W.Frag}
mutual
theorem Dm.dp' : ∀ (d : PyData) (v : V), Dm M H v d → Dp K H v d
  | .none, _, h => by cases h; exact .non
  | .bool _, _, h => by cases h; exact .bl _
  | .int _, _, h => by cases h; exact .int _
  | .str _, _, h => by cases h; exact .str _
  | .list ds, _, h => by
    cases h with
    | lst hm ha hs => exact .lst (SqL.of ha) (DmAll.dp' ds _ hs)
  | .tuple ds, _, h => by
    cases h with
    | tup hm ha hs => exact .tup (SqT.of ha) (DmAll.dp' ds _ hs)
  | .dict _, _, h => nomatch h
theorem DmAll.dp' : ∀ (ds : List PyData) (vs : List V), DmAll M H vs ds → DpAll K H vs ds
  | [], _, h => by cases h; exact .nil
  | d :: ds, _, h => by
    cases h with
    | cons h1 h2 => exact .cons (Dm.dp' d _ h1) (DmAll.dp' ds _ h2)
end
theorem Dm.dp {d : PyData} {v : V} (h : Dm M H v d) : Dp K H v d := Dm.dp' d v h
theorem DmAll.len : ∀ {vs : List V} {ds : List PyData}, DmAll M H vs ds → vs.length = ds.length
  | [], _, h => by cases h; rfl
  | v :: vs, _, h => by
    cases h with
    | cons h1 h2 => rw [List.length_cons, List.length_cons, DmAll.len h2]
theorem DmAll.app : ∀ {vs ws : List V} {ds es : List PyData}, DmAll M H vs ds → DmAll M H ws es → DmAll M H (vs ++ ws) (ds ++ es)
  | [], _, _, _, h, h' => by cases h; exact h'
  | v :: vs, _, _, _, h, h' => by
    cases h with
    | cons h1 h2 => exact .cons h1 (DmAll.app h2 h')
end

/-! ### how long it is when shown -/
theorem listText_le : ∀ ts : List Str, (listText ts).length ≤ piled ts + 2
  | [] => Nat.le_of_eq rfl
  | t :: r => by
    have e : (listText (t :: r)).length = (textFrom 1 (("[" : Str) ++ ("" : Str) ++ t) r).length + ("]" : Str).length := strLen_append _ _
    rw [e, textFrom_length_pos r 1 _ (by decide), strLen_append, strLen_append, piled_cons]
    show 1 + 0 + t.length + piled r + 1 ≤ _
    omega
theorem tupleText_le (ts : List Str) : (tupleText ts).length ≤ piled ts + 3 := by
  have e : (tupleText ts).length = (("(" : Str) ++ Str.join ", " ts).length + (((if ts.length == 1 then ",)" else ")" : String) : Str)).length := strLen_append _ _
  rw [e, strLen_append]
  have l : ((((if ts.length == 1 then ",)" else ")" : String) : Str)).length) ≤ 2 := by split <;> decide
  have l1 : ("(" : Str).length = 1 := rfl
  cases ts with
  | nil => have : (Str.join ", " ([] : List Str)).length = 0 := rfl; omega
  | cons t r => have := join_length_add (t :: r) (by simp); omega
/-- data that can be shown, so deep and so long at most -/
structure Sb (d : PyData) (dp ln : Nat) : Prop where
  s : d.showable = true
  n : d.hasDict = false
  p : d.depth ≤ dp
  l : d.shown.length ≤ ln
theorem Sb.up {d : PyData} {p q l m : Nat} (h : Sb d p l) (hp : p ≤ q) (hl : l ≤ m) : Sb d q m := ⟨h.s, h.n, Nat.le_trans h.p hp, Nat.le_trans h.l hl⟩
theorem Sb.w {d : PyData} {p l : Nat} (h : Sb d p l) (hp : p ≤ 60) (hl : l ≤ 16777216) : Shw d := ⟨h.s, h.n, Nat.le_trans h.p hp, Nat.le_trans h.l (by rw [sizeLine_eq]; exact hl)⟩
theorem sb_all {p l : Nat} : ∀ {ds : List PyData}, (∀ d ∈ ds, Sb d p l) → PyData.showableAll ds = true ∧ PyData.hasDictAll ds = false ∧ PyData.depthAll ds ≤ p ∧ piled (PyData.shownAll ds) ≤ (l + 2) * ds.length
  | [], _ => ⟨rfl, rfl, Nat.zero_le _, Nat.zero_le _⟩
  | d :: ds, h => by
    obtain ⟨h1, h2, h3, h4⟩ := sb_all fun e he => h e (List.mem_cons_of_mem _ he)
    have hd := h d List.mem_cons_self
    have hp := hd.p
    have hl := hd.l
    refine ⟨?_, ?_, ?_, ?_⟩
    · simp [PyData.showableAll, hd.s, h1]
    · simp [PyData.hasDictAll, hd.n, h2]
    · simp only [PyData.depthAll]
      omega
    · simp only [PyData.shownAll, piled_cons, List.length_cons, Nat.mul_add]
      omega
theorem sb_list {ds : List PyData} {p l : Nat} (h : ∀ d ∈ ds, Sb d p l) : Sb (.list ds) (p + 1) ((l + 2) * ds.length + 2) := by
  obtain ⟨h1, h2, h3, h4⟩ := sb_all h
  refine ⟨by simpa [PyData.showable] using h1, by simpa [PyData.hasDict] using h2, by simp only [PyData.depth]; omega, ?_⟩
  simp only [PyData.shown]
  exact Nat.le_trans (listText_le _) (by omega)
theorem sb_tuple {ds : List PyData} {p l : Nat} (h : ∀ d ∈ ds, Sb d p l) : Sb (.tuple ds) (p + 1) ((l + 2) * ds.length + 3) := by
  obtain ⟨h1, h2, h3, h4⟩ := sb_all h
  refine ⟨by simpa [PyData.showable] using h1, by simpa [PyData.hasDict] using h2, by simp only [PyData.depth]; omega, ?_⟩
  simp only [PyData.shown]
  exact Nat.le_trans (tupleText_le _) (by omega)
theorem sb_none : Sb .none 1 5 := ⟨rfl, rfl, by decide, by decide⟩
theorem sb_bool (b : Bool) : Sb (.bool b) 1 5 := by cases b <;> exact ⟨rfl, rfl, by decide, by decide⟩

/-- what is tracked: data of which nothing is so is new -/
def New (H : Hp) : Addr → Prop := fun a => H a ≠ none
theorem new_of {H : Hp} {a : Addr} (h : H a = none) : ¬ New H a := fun z => z h
theorem Kp.new {H H1 : Hp} {b : Addr} (k : Kp (· = b) H H1) (hb : New H1 b) {a : Addr} (h : ¬ New H1 a) : ¬ New H a := fun z => by
  by_cases e : a = b
  · rw [e] at h
    exact h hb
  · cases q : H a with
    | none => exact z q
    | some o => exact h (by rw [New, k a o q e]; exact fun y => nomatch y)
theorem Bx.new {H : Hp} {b : Addr} (h : ∃ w s c : Int, H b = some (.lst [.int w, .int s, .int c])) : New H b := by
  obtain ⟨_, _, _, e⟩ := h
  rw [New, e]
  exact fun y => nomatch y
/-! ### the source of draws: a list of three ints at b -/
def Bx (H : Hp) (b : Addr) : Prop := ∃ w s c : Int, H b = some (.lst [.int w, .int s, .int c])
/-- the script, which no one writes: a list of xs at a -/
def Scr (K : PySem.W.Frag) (H : Hp) (a : Addr) (xs : List V) : Prop := (∃ o, H a = some (.frz o (.lst xs))) ∨ (∀ H', SqL K H' a xs)
theorem Scr.sq {K : PySem.W.Frag} {H : Hp} {a : Addr} {xs : List V} (h : Scr K H a xs) : SqL K H a xs := by
  rcases h with ⟨o, h⟩ | h
  · exact .inl (.inr ⟨o, h⟩)
  · exact h H
theorem Scr.kp {K : PySem.W.Frag} {H H' : Hp} {a b : Addr} {xs : List V} (h : Scr K H a xs) (hb : Bx H b) (k : Kp (· = b) H H') : Scr K H' a xs := by
  rcases h with ⟨o, h⟩ | h
  · refine .inl ⟨o, k _ _ h fun e => ?_⟩
    obtain ⟨_, _, _, z⟩ := hb
    rw [e, z] at h
    cases h
  · exact .inr h
theorem Scr.same {K : PySem.W.Frag} {H H' : Hp} {a : Addr} {xs : List V} (h : Scr K H a xs) (k : Same H H') : Scr K H' a xs := by
  rcases h with ⟨o, h⟩ | h
  · exact .inl ⟨o, k _ _ h⟩
  · exact .inr h
theorem scr_of {K : PySem.W.Frag} {H : Hp} {a : Addr} {xs : List V} (ho : Only H) (h : SqL K H a xs) : Scr K H a xs := by
  rcases h with (h | ⟨o, h⟩) | h
  · rcases ho a with e | ⟨o, ys, e⟩
    · rw [e] at h; cases h
    · rw [e] at h; cases h
  · exact .inl ⟨o, h⟩
  · exact .inr fun H' => .inr h
theorem Bx.same {H H' : Hp} {b : Addr} (h : Bx H b) (k : Same H H') : Bx H' b := let ⟨w, s, c, e⟩ := h; ⟨w, s, c, k _ _ e⟩
/-- a law's promise: True, whatever the script -/
def spLaw (K : PySem.W.Frag) : Sp := fun vs H Q _ => ∃ (a : Addr) (ns : List Int), vs = [.ref a] ∧ Scr K H a (ns.map V.int) ∧ ns.length ≤ 63 ∧ ∀ H', Q (.bl true) H'
theorem sp_start (K : PySem.W.Frag) (H : Hp) (a : Addr) (ns : List Int) (hl : ns.length ≤ 63) (ho : Only H) (hs : SqL K H a (ns.map V.int)) : spLaw K [.ref a] H (fun v _ => v = .bl true) fun _ _ _ => False := ⟨a, ns, rfl, scr_of ho hs, hl, fun _ => rfl⟩
/-- a draw below m -/
def spTake : Sp := fun vs H Q _ => ∃ (b : Addr) (m : Int), vs = [.ref b, .int m] ∧ 0 < m ∧ m < 1073741824 ∧ Bx H b ∧ ∀ (r : Int) (H' : Hp), 0 ≤ r → r < m → Bx H' b → Kp (· = b) H H' → Q (.int r) H'
/-- how long any value is when shown -/
def anyLn : Nat → Nat
  | 0 => 20
  | k + 1 => (anyLn k + 2) * 2 + 3
theorem anyLn_ge : ∀ k : Nat, 20 ≤ anyLn k
  | 0 => Nat.le_refl _
  | k + 1 => by have := anyLn_ge k; unfold anyLn; omega
/-- any value, nested so deep at most: all of it is new -/
def spAny (k : Nat) : Sp := fun vs H Q _ => ∃ (b : Addr) (n : Int), vs = [.ref b, .int n] ∧ n ≤ k ∧ Bx H b ∧ ∀ (v : V) (d : PyData) (H' : Hp), Dm (New H) H' v d → Sb d (k + 2) (anyLn k) → Bx H' b → Kp (· = b) H H' → Q v H'
def spAnyR : Nat → Sp
  | 0 => fun _ _ _ _ => False
  | k + 1 => spAny k
/-- one of some things, a list of them at a -/
def spPick (K : PySem.W.Frag) : Sp := fun vs H Q _ => ∃ (b a : Addr) (xs : List V), vs = [.ref b, .ref a] ∧ SqL K H a xs ∧ a ≠ b ∧ 0 < xs.length ∧ xs.length < 1000000 ∧ Bx H b ∧ ∀ (v : V) (H' : Hp), v ∈ xs → Bx H' b → Kp (· = b) H H' → Q v H'
/-- cell k's source -/
def spBox (K : PySem.W.Frag) : Sp := fun vs H Q _ => ∃ (a : Addr) (ns : List Int) (k : Int), vs = [.ref a, .int k] ∧ SqL K H a (ns.map V.int) ∧ ns.length ≤ 63 ∧ 0 ≤ k ∧ k < 1000 ∧ ∀ (b : Addr) (H' : Hp), H b = none → Bx H' b → Same H H' → Q (.ref b) H'
end Rw
namespace L01
open PySem PySem.Spec PyProof.Rows L2 Rw
/-! own short words: a place of a heap, a sequence there, unlike places, the next steps of a reading -/
local macro_rules
  | `(tactic| walk_at "ne") => `(tactic| first | assumption | exact Ne.symm (by assumption) | exact nw1 (by assumption) (by walk_at "hl") | exact nw2 (by assumption) (by walk_at "hl") | omega)
local macro_rules
  | `(tactic| walk_at "hl") => `(tactic| first | exact upd_same | assumption | (with_reducible refine (upd_ne (by walk_at "ne")).trans ?_; walk_at "hl"))
local macro_rules
  | `(tactic| walk_at "sq") => `(tactic| first
    | (show SqL _ _ _ _; first | assumption | exact SqL.of (by walk_at "hl"))
    | (show SqT _ _ _ _; first | assumption | exact SqT.of (by walk_at "hl"))
    | (show _ ∨ _; first | (refine Or.inl ?_; walk_at "sq") | (refine Or.inr ?_; walk_at "sq")))
local macro_rules
  | `(tactic| walk_at "cd") => `(tactic| first | assumption | exact sz (Nat.le_of_ble_eq_true rfl) | (first | omega | (dsimp only; omega)) | exact ⟨by omega, by omega⟩ | exact Or.inl ⟨by omega, by omega⟩ | exact Or.inr ⟨by omega, by omega⟩ | exact Or.inl ⟨by decide, by decide⟩ | exact Or.inr ⟨by decide, by decide⟩ | decide)
local macro_rules
  | `(tactic| walk_at "r1") => `(tactic| first
    | refine ⟨_, rfl, ?_⟩
    | refine ⟨_, _, rfl, rfl, ?_⟩
    | refine ⟨_, _, rfl, rfl, (by walk_at "cd"), ?_⟩
    | refine ⟨_, _, _, _, rfl, rfl, (by walk_at "sq"), rfl, ?_⟩
    | refine ⟨_, _, _, _, rfl, rfl, (by walk_at "hl"), rfl, ?_⟩
    | refine Or.inl ⟨_, rfl, ?_⟩
    | refine ⟨_, _, rfl, (by walk_at "sq"), ?_⟩
    | refine ⟨_, _, rfl, (by walk_at "sq"), rfl, ?_⟩
    | refine ⟨(_ : Int), (_ : Int), rfl, ?_⟩
    | refine And.intro rfl ?_
    | refine And.intro (by walk_at "cd") ?_)
local macro_rules
  | `(tactic| walk_at "rd") => `(tactic| repeat walk_at "r1")
def topS (i : Nat) : Stmt := PySem.Challenge.pw_rainweeks_k01_errors_and_what_they_keep.main.body.getD i (.Pass ⟨0, 0, 0, 0⟩)
abbrev sInvalidWeekInit : Stmt := inClass (topS 2) 0
abbrev NInvalidWeekInit : List Str := ["self", "word"]
theorem scInvalidWeekInit : FnScope NInvalidWeekInit ["self", "word"] (defScope sInvalidWeekInit) := ⟨rfl, rfl, rfl, by decide +kernel, rfl, by decide +kernel, by decide +kernel⟩
abbrev sInvalidRuleInit : Stmt := inClass (topS 3) 0
abbrev NInvalidRuleInit : List Str := ["self", "word"]
theorem scInvalidRuleInit : FnScope NInvalidRuleInit ["self", "word"] (defScope sInvalidRuleInit) := ⟨rfl, rfl, rfl, by decide +kernel, rfl, by decide +kernel, by decide +kernel⟩
abbrev sInvalidMeasureInit : Stmt := inClass (topS 4) 0
abbrev NInvalidMeasureInit : List Str := ["self", "word"]
theorem scInvalidMeasureInit : FnScope NInvalidMeasureInit ["self", "word"] (defScope sInvalidMeasureInit) := ⟨rfl, rfl, rfl, by decide +kernel, rfl, by decide +kernel, by decide +kernel⟩
abbrev sInvalidTextInit : Stmt := inClass (topS 5) 0
abbrev NInvalidTextInit : List Str := ["self", "at"]
theorem scInvalidTextInit : FnScope NInvalidTextInit ["self", "at"] (defScope sInvalidTextInit) := ⟨rfl, rfl, rfl, by decide +kernel, rfl, by decide +kernel, by decide +kernel⟩
abbrev sInvalidRainInit : Stmt := inClass (topS 6) 0
abbrev NInvalidRainInit : List Str := ["self", "at"]
theorem scInvalidRainInit : FnScope NInvalidRainInit ["self", "at"] (defScope sInvalidRainInit) := ⟨rfl, rfl, rfl, by decide +kernel, rfl, by decide +kernel, by decide +kernel⟩
abbrev sInvalidSeenInit : Stmt := inClass (topS 7) 0
abbrev NInvalidSeenInit : List Str := ["self", "at"]
theorem scInvalidSeenInit : FnScope NInvalidSeenInit ["self", "at"] (defScope sInvalidSeenInit) := ⟨rfl, rfl, rfl, by decide +kernel, rfl, by decide +kernel, by decide +kernel⟩
abbrev sInvalidCommandInit : Stmt := inClass (topS 8) 0
abbrev NInvalidCommandInit : List Str := ["self"]
theorem scInvalidCommandInit : FnScope NInvalidCommandInit ["self"] (defScope sInvalidCommandInit) := ⟨rfl, rfl, rfl, by decide +kernel, rfl, by decide +kernel, by decide +kernel⟩
abbrev sRefusedInit : Stmt := inClass (topS 9) 0
abbrev NRefusedInit : List Str := ["self", "at"]
theorem scRefusedInit : FnScope NRefusedInit ["self", "at"] (defScope sRefusedInit) := ⟨rfl, rfl, rfl, by decide +kernel, rfl, by decide +kernel, by decide +kernel⟩
abbrev sBox : Stmt := topS 11
abbrev NBox : List Str := ["_law_script", "_law_k", "_law_cell", "_law_seed", "_law_wide"]
theorem scBox : FnScope NBox ["_law_script", "_law_k"] (defScope sBox) := ⟨rfl, rfl, rfl, by decide +kernel, rfl, by decide +kernel, by decide +kernel⟩
abbrev sTake : Stmt := topS 12
abbrev NTake : List Str := ["_law_box_here", "_law_many", "_law_digit", "_law_near"]
theorem scTake : FnScope NTake ["_law_box_here", "_law_many"] (defScope sTake) := ⟨rfl, rfl, rfl, by decide +kernel, rfl, by decide +kernel, by decide +kernel⟩
abbrev sPick : Stmt := topS 13
abbrev NPick : List Str := ["_law_box_here", "_law_some"]
theorem scPick : FnScope NPick ["_law_box_here", "_law_some"] (defScope sPick) := ⟨rfl, rfl, rfl, by decide +kernel, rfl, by decide +kernel, by decide +kernel⟩
abbrev sAny : Stmt := topS 14
abbrev NAny : List Str := ["_law_box_here", "_law_deep", "_law_form", "_law_some", "_law_k", "_law_words", "_law_plain"]
theorem scAny : FnScope NAny ["_law_box_here", "_law_deep"] (defScope sAny) := ⟨rfl, rfl, rfl, by decide +kernel, rfl, by decide +kernel, by decide +kernel⟩
abbrev sMade : Stmt := topS 15
abbrev NMade : List Str := ["_law_spot", "_law_value"]
theorem scMade : FnScope NMade ["_law_spot", "_law_value"] (defScope sMade) := ⟨rfl, rfl, rfl, by decide +kernel, rfl, by decide +kernel, by decide +kernel⟩
abbrev sNamed : Stmt := topS 16
abbrev NNamed : List Str := ["_law_spot", "_law_value"]
theorem scNamed : FnScope NNamed ["_law_spot", "_law_value"] (defScope sNamed) := ⟨rfl, rfl, rfl, by decide +kernel, rfl, by decide +kernel, by decide +kernel⟩
abbrev sSorts : Stmt := topS 17
abbrev NSorts : List Str := ["_law_e", "_law_found", "_law_spot", "_law_is_so"]
theorem scSorts : FnScope NSorts ["_law_e"] (defScope sSorts) := ⟨rfl, rfl, rfl, by decide +kernel, rfl, by decide +kernel, by decide +kernel⟩
abbrev sIsKept : Stmt := topS 18
abbrev NIsKept : List Str := ["_law_e", "_law_spot", "_law_value"]
theorem scIsKept : FnScope NIsKept ["_law_e", "_law_spot", "_law_value"] (defScope sIsKept) := ⟨rfl, rfl, rfl, by decide +kernel, rfl, by decide +kernel, by decide +kernel⟩
abbrev sLaw : Stmt := topS 19
abbrev NLaw : List Str := ["_law_script", "_law_k", "_law_box_here", "_law_spot", "_law_value", "_law_e", "_law_some"]
theorem scLaw : FnScope NLaw ["_law_script"] (defScope sLaw) := ⟨rfl, rfl, rfl, by decide +kernel, rfl, by decide +kernel, by decide +kernel⟩
structure Txt (K : PySem.W.Frag) (mg : Str → Option Value) where
  fInvalidWeekInit : Addr
  fdInvalidWeekInit : FuncData
  FInvalidWeekInit : Fun K "__init__" "InvalidWeek.__init__" sInvalidWeekInit fInvalidWeekInit fdInvalidWeekInit
  fInvalidRuleInit : Addr
  fdInvalidRuleInit : FuncData
  FInvalidRuleInit : Fun K "__init__" "InvalidRule.__init__" sInvalidRuleInit fInvalidRuleInit fdInvalidRuleInit
  fInvalidMeasureInit : Addr
  fdInvalidMeasureInit : FuncData
  FInvalidMeasureInit : Fun K "__init__" "InvalidMeasure.__init__" sInvalidMeasureInit fInvalidMeasureInit fdInvalidMeasureInit
  fInvalidTextInit : Addr
  fdInvalidTextInit : FuncData
  FInvalidTextInit : Fun K "__init__" "InvalidText.__init__" sInvalidTextInit fInvalidTextInit fdInvalidTextInit
  fInvalidRainInit : Addr
  fdInvalidRainInit : FuncData
  FInvalidRainInit : Fun K "__init__" "InvalidRain.__init__" sInvalidRainInit fInvalidRainInit fdInvalidRainInit
  fInvalidSeenInit : Addr
  fdInvalidSeenInit : FuncData
  FInvalidSeenInit : Fun K "__init__" "InvalidSeen.__init__" sInvalidSeenInit fInvalidSeenInit fdInvalidSeenInit
  fInvalidCommandInit : Addr
  fdInvalidCommandInit : FuncData
  FInvalidCommandInit : Fun K "__init__" "InvalidCommand.__init__" sInvalidCommandInit fInvalidCommandInit fdInvalidCommandInit
  fRefusedInit : Addr
  fdRefusedInit : FuncData
  FRefusedInit : Fun K "__init__" "Refused.__init__" sRefusedInit fRefusedInit fdRefusedInit
  fBox : Addr
  fdBox : FuncData
  FBox : Fun K "_law_box" "_law_box" sBox fBox fdBox
  gBox : mg "_law_box" = some (.ref fBox)
  fTake : Addr
  fdTake : FuncData
  FTake : Fun K "_law_take" "_law_take" sTake fTake fdTake
  gTake : mg "_law_take" = some (.ref fTake)
  fPick : Addr
  fdPick : FuncData
  FPick : Fun K "_law_pick" "_law_pick" sPick fPick fdPick
  gPick : mg "_law_pick" = some (.ref fPick)
  fAny : Addr
  fdAny : FuncData
  FAny : Fun K "_law_any" "_law_any" sAny fAny fdAny
  gAny : mg "_law_any" = some (.ref fAny)
  fMade : Addr
  fdMade : FuncData
  FMade : Fun K "_law_made" "_law_made" sMade fMade fdMade
  gMade : mg "_law_made" = some (.ref fMade)
  fNamed : Addr
  fdNamed : FuncData
  FNamed : Fun K "_law_named" "_law_named" sNamed fNamed fdNamed
  gNamed : mg "_law_named" = some (.ref fNamed)
  fSorts : Addr
  fdSorts : FuncData
  FSorts : Fun K "_law_sorts" "_law_sorts" sSorts fSorts fdSorts
  gSorts : mg "_law_sorts" = some (.ref fSorts)
  fIsKept : Addr
  fdIsKept : FuncData
  FIsKept : Fun K "_law_is_kept" "_law_is_kept" sIsKept fIsKept fdIsKept
  gIsKept : mg "_law_is_kept" = some (.ref fIsKept)
  fLaw : Addr
  fdLaw : FuncData
  FLaw : Fun K "law" "law" sLaw fLaw fdLaw
  gLaw : mg "law" = some (.ref fLaw)
  CInvalidWeek : Addr
  gInvalidWeek : mg "InvalidWeek" = some (.ref CInvalidWeek)
  tInvalidWeek : ExT K CInvalidWeek fInvalidWeekInit "word"
  CInvalidRule : Addr
  gInvalidRule : mg "InvalidRule" = some (.ref CInvalidRule)
  tInvalidRule : ExT K CInvalidRule fInvalidRuleInit "word"
  CInvalidMeasure : Addr
  gInvalidMeasure : mg "InvalidMeasure" = some (.ref CInvalidMeasure)
  tInvalidMeasure : ExT K CInvalidMeasure fInvalidMeasureInit "word"
  CInvalidText : Addr
  gInvalidText : mg "InvalidText" = some (.ref CInvalidText)
  tInvalidText : ExT K CInvalidText fInvalidTextInit "at"
  CInvalidRain : Addr
  gInvalidRain : mg "InvalidRain" = some (.ref CInvalidRain)
  tInvalidRain : ExT K CInvalidRain fInvalidRainInit "at"
  CInvalidSeen : Addr
  gInvalidSeen : mg "InvalidSeen" = some (.ref CInvalidSeen)
  tInvalidSeen : ExT K CInvalidSeen fInvalidSeenInit "at"
  CRefused : Addr
  gRefused : mg "Refused" = some (.ref CRefused)
  tRefused : ExT K CRefused fRefusedInit "at"
  CInvalidCommand : Addr
  gInvalidCommand : mg "InvalidCommand" = some (.ref CInvalidCommand)
  tInvalidCommand : ExT0 K CInvalidCommand fInvalidCommandInit
  CRainError : Addr
  gRainError : mg "RainError" = some (.ref CRainError)
  oRainError : OexC K CRainError
  cRainError : ExcC K CRainError
  m_len : mg "len" = none
  m_abs : mg "abs" = none
  m_int : mg "int" = none
  m_range : mg "range" = none
  m_max : mg "max" = none
  m_min : mg "min" = none
  m_tuple : mg "tuple" = none
  m_repr : mg "repr" = none
  m_isinstance : mg "isinstance" = none
  m_enumerate : mg "enumerate" = none
  m_ValueError : mg "ValueError" = none
  isRainError_RainError : PySem.W.subIn K (.ref CRainError) (.ref CRainError) = some true
  isInvalidWeek_InvalidWeek : PySem.W.subIn K (.ref CInvalidWeek) (.ref CInvalidWeek) = some true
  isInvalidWeek_InvalidRule : PySem.W.subIn K (.ref CInvalidWeek) (.ref CInvalidRule) = some false
  isInvalidWeek_InvalidMeasure : PySem.W.subIn K (.ref CInvalidWeek) (.ref CInvalidMeasure) = some false
  isInvalidWeek_InvalidText : PySem.W.subIn K (.ref CInvalidWeek) (.ref CInvalidText) = some false
  isInvalidWeek_InvalidRain : PySem.W.subIn K (.ref CInvalidWeek) (.ref CInvalidRain) = some false
  isInvalidWeek_InvalidSeen : PySem.W.subIn K (.ref CInvalidWeek) (.ref CInvalidSeen) = some false
  isInvalidWeek_Refused : PySem.W.subIn K (.ref CInvalidWeek) (.ref CRefused) = some false
  isInvalidWeek_InvalidCommand : PySem.W.subIn K (.ref CInvalidWeek) (.ref CInvalidCommand) = some false
  isInvalidWeek_RainError : PySem.W.subIn K (.ref CInvalidWeek) (.ref CRainError) = some true
  isInvalidWeek_V : PySem.W.subIn K (.ref CInvalidWeek) (.type "ValueError") = some true
  isInvalidRule_InvalidWeek : PySem.W.subIn K (.ref CInvalidRule) (.ref CInvalidWeek) = some false
  isInvalidRule_InvalidRule : PySem.W.subIn K (.ref CInvalidRule) (.ref CInvalidRule) = some true
  isInvalidRule_InvalidMeasure : PySem.W.subIn K (.ref CInvalidRule) (.ref CInvalidMeasure) = some false
  isInvalidRule_InvalidText : PySem.W.subIn K (.ref CInvalidRule) (.ref CInvalidText) = some false
  isInvalidRule_InvalidRain : PySem.W.subIn K (.ref CInvalidRule) (.ref CInvalidRain) = some false
  isInvalidRule_InvalidSeen : PySem.W.subIn K (.ref CInvalidRule) (.ref CInvalidSeen) = some false
  isInvalidRule_Refused : PySem.W.subIn K (.ref CInvalidRule) (.ref CRefused) = some false
  isInvalidRule_InvalidCommand : PySem.W.subIn K (.ref CInvalidRule) (.ref CInvalidCommand) = some false
  isInvalidRule_RainError : PySem.W.subIn K (.ref CInvalidRule) (.ref CRainError) = some true
  isInvalidRule_V : PySem.W.subIn K (.ref CInvalidRule) (.type "ValueError") = some true
  isInvalidMeasure_InvalidWeek : PySem.W.subIn K (.ref CInvalidMeasure) (.ref CInvalidWeek) = some false
  isInvalidMeasure_InvalidRule : PySem.W.subIn K (.ref CInvalidMeasure) (.ref CInvalidRule) = some false
  isInvalidMeasure_InvalidMeasure : PySem.W.subIn K (.ref CInvalidMeasure) (.ref CInvalidMeasure) = some true
  isInvalidMeasure_InvalidText : PySem.W.subIn K (.ref CInvalidMeasure) (.ref CInvalidText) = some false
  isInvalidMeasure_InvalidRain : PySem.W.subIn K (.ref CInvalidMeasure) (.ref CInvalidRain) = some false
  isInvalidMeasure_InvalidSeen : PySem.W.subIn K (.ref CInvalidMeasure) (.ref CInvalidSeen) = some false
  isInvalidMeasure_Refused : PySem.W.subIn K (.ref CInvalidMeasure) (.ref CRefused) = some false
  isInvalidMeasure_InvalidCommand : PySem.W.subIn K (.ref CInvalidMeasure) (.ref CInvalidCommand) = some false
  isInvalidMeasure_RainError : PySem.W.subIn K (.ref CInvalidMeasure) (.ref CRainError) = some true
  isInvalidMeasure_V : PySem.W.subIn K (.ref CInvalidMeasure) (.type "ValueError") = some true
  isInvalidText_InvalidWeek : PySem.W.subIn K (.ref CInvalidText) (.ref CInvalidWeek) = some false
  isInvalidText_InvalidRule : PySem.W.subIn K (.ref CInvalidText) (.ref CInvalidRule) = some false
  isInvalidText_InvalidMeasure : PySem.W.subIn K (.ref CInvalidText) (.ref CInvalidMeasure) = some false
  isInvalidText_InvalidText : PySem.W.subIn K (.ref CInvalidText) (.ref CInvalidText) = some true
  isInvalidText_InvalidRain : PySem.W.subIn K (.ref CInvalidText) (.ref CInvalidRain) = some false
  isInvalidText_InvalidSeen : PySem.W.subIn K (.ref CInvalidText) (.ref CInvalidSeen) = some false
  isInvalidText_Refused : PySem.W.subIn K (.ref CInvalidText) (.ref CRefused) = some false
  isInvalidText_InvalidCommand : PySem.W.subIn K (.ref CInvalidText) (.ref CInvalidCommand) = some false
  isInvalidText_RainError : PySem.W.subIn K (.ref CInvalidText) (.ref CRainError) = some true
  isInvalidText_V : PySem.W.subIn K (.ref CInvalidText) (.type "ValueError") = some true
  isInvalidRain_InvalidWeek : PySem.W.subIn K (.ref CInvalidRain) (.ref CInvalidWeek) = some false
  isInvalidRain_InvalidRule : PySem.W.subIn K (.ref CInvalidRain) (.ref CInvalidRule) = some false
  isInvalidRain_InvalidMeasure : PySem.W.subIn K (.ref CInvalidRain) (.ref CInvalidMeasure) = some false
  isInvalidRain_InvalidText : PySem.W.subIn K (.ref CInvalidRain) (.ref CInvalidText) = some false
  isInvalidRain_InvalidRain : PySem.W.subIn K (.ref CInvalidRain) (.ref CInvalidRain) = some true
  isInvalidRain_InvalidSeen : PySem.W.subIn K (.ref CInvalidRain) (.ref CInvalidSeen) = some false
  isInvalidRain_Refused : PySem.W.subIn K (.ref CInvalidRain) (.ref CRefused) = some false
  isInvalidRain_InvalidCommand : PySem.W.subIn K (.ref CInvalidRain) (.ref CInvalidCommand) = some false
  isInvalidRain_RainError : PySem.W.subIn K (.ref CInvalidRain) (.ref CRainError) = some true
  isInvalidRain_V : PySem.W.subIn K (.ref CInvalidRain) (.type "ValueError") = some true
  isInvalidSeen_InvalidWeek : PySem.W.subIn K (.ref CInvalidSeen) (.ref CInvalidWeek) = some false
  isInvalidSeen_InvalidRule : PySem.W.subIn K (.ref CInvalidSeen) (.ref CInvalidRule) = some false
  isInvalidSeen_InvalidMeasure : PySem.W.subIn K (.ref CInvalidSeen) (.ref CInvalidMeasure) = some false
  isInvalidSeen_InvalidText : PySem.W.subIn K (.ref CInvalidSeen) (.ref CInvalidText) = some false
  isInvalidSeen_InvalidRain : PySem.W.subIn K (.ref CInvalidSeen) (.ref CInvalidRain) = some false
  isInvalidSeen_InvalidSeen : PySem.W.subIn K (.ref CInvalidSeen) (.ref CInvalidSeen) = some true
  isInvalidSeen_Refused : PySem.W.subIn K (.ref CInvalidSeen) (.ref CRefused) = some false
  isInvalidSeen_InvalidCommand : PySem.W.subIn K (.ref CInvalidSeen) (.ref CInvalidCommand) = some false
  isInvalidSeen_RainError : PySem.W.subIn K (.ref CInvalidSeen) (.ref CRainError) = some true
  isInvalidSeen_V : PySem.W.subIn K (.ref CInvalidSeen) (.type "ValueError") = some true
  isRefused_InvalidWeek : PySem.W.subIn K (.ref CRefused) (.ref CInvalidWeek) = some false
  isRefused_InvalidRule : PySem.W.subIn K (.ref CRefused) (.ref CInvalidRule) = some false
  isRefused_InvalidMeasure : PySem.W.subIn K (.ref CRefused) (.ref CInvalidMeasure) = some false
  isRefused_InvalidText : PySem.W.subIn K (.ref CRefused) (.ref CInvalidText) = some false
  isRefused_InvalidRain : PySem.W.subIn K (.ref CRefused) (.ref CInvalidRain) = some false
  isRefused_InvalidSeen : PySem.W.subIn K (.ref CRefused) (.ref CInvalidSeen) = some false
  isRefused_Refused : PySem.W.subIn K (.ref CRefused) (.ref CRefused) = some true
  isRefused_InvalidCommand : PySem.W.subIn K (.ref CRefused) (.ref CInvalidCommand) = some false
  isRefused_RainError : PySem.W.subIn K (.ref CRefused) (.ref CRainError) = some true
  isRefused_V : PySem.W.subIn K (.ref CRefused) (.type "ValueError") = some true
  isInvalidCommand_InvalidWeek : PySem.W.subIn K (.ref CInvalidCommand) (.ref CInvalidWeek) = some false
  isInvalidCommand_InvalidRule : PySem.W.subIn K (.ref CInvalidCommand) (.ref CInvalidRule) = some false
  isInvalidCommand_InvalidMeasure : PySem.W.subIn K (.ref CInvalidCommand) (.ref CInvalidMeasure) = some false
  isInvalidCommand_InvalidText : PySem.W.subIn K (.ref CInvalidCommand) (.ref CInvalidText) = some false
  isInvalidCommand_InvalidRain : PySem.W.subIn K (.ref CInvalidCommand) (.ref CInvalidRain) = some false
  isInvalidCommand_InvalidSeen : PySem.W.subIn K (.ref CInvalidCommand) (.ref CInvalidSeen) = some false
  isInvalidCommand_Refused : PySem.W.subIn K (.ref CInvalidCommand) (.ref CRefused) = some false
  isInvalidCommand_InvalidCommand : PySem.W.subIn K (.ref CInvalidCommand) (.ref CInvalidCommand) = some true
  isInvalidCommand_RainError : PySem.W.subIn K (.ref CInvalidCommand) (.ref CRainError) = some true
  isInvalidCommand_V : PySem.W.subIn K (.ref CInvalidCommand) (.type "ValueError") = some true
theorem bInvalidWeekInit {K : PySem.W.Frag} {mg : Str → Option Value} (T : Txt K mg) : Binds K T.fdInvalidWeekInit ["self", "word"] [] := T.FInvalidWeekInit.binds fun _ _ _ _ _ _ us hl => match us, hl with | [_, _], _ => rfl
theorem bInvalidRuleInit {K : PySem.W.Frag} {mg : Str → Option Value} (T : Txt K mg) : Binds K T.fdInvalidRuleInit ["self", "word"] [] := T.FInvalidRuleInit.binds fun _ _ _ _ _ _ us hl => match us, hl with | [_, _], _ => rfl
theorem bInvalidMeasureInit {K : PySem.W.Frag} {mg : Str → Option Value} (T : Txt K mg) : Binds K T.fdInvalidMeasureInit ["self", "word"] [] := T.FInvalidMeasureInit.binds fun _ _ _ _ _ _ us hl => match us, hl with | [_, _], _ => rfl
theorem bInvalidTextInit {K : PySem.W.Frag} {mg : Str → Option Value} (T : Txt K mg) : Binds K T.fdInvalidTextInit ["self", "at"] [] := T.FInvalidTextInit.binds fun _ _ _ _ _ _ us hl => match us, hl with | [_, _], _ => rfl
theorem bInvalidRainInit {K : PySem.W.Frag} {mg : Str → Option Value} (T : Txt K mg) : Binds K T.fdInvalidRainInit ["self", "at"] [] := T.FInvalidRainInit.binds fun _ _ _ _ _ _ us hl => match us, hl with | [_, _], _ => rfl
theorem bInvalidSeenInit {K : PySem.W.Frag} {mg : Str → Option Value} (T : Txt K mg) : Binds K T.fdInvalidSeenInit ["self", "at"] [] := T.FInvalidSeenInit.binds fun _ _ _ _ _ _ us hl => match us, hl with | [_, _], _ => rfl
theorem bInvalidCommandInit {K : PySem.W.Frag} {mg : Str → Option Value} (T : Txt K mg) : Binds K T.fdInvalidCommandInit ["self"] [] := T.FInvalidCommandInit.binds fun _ _ _ _ _ _ us hl => match us, hl with | [_], _ => rfl
theorem bRefusedInit {K : PySem.W.Frag} {mg : Str → Option Value} (T : Txt K mg) : Binds K T.fdRefusedInit ["self", "at"] [] := T.FRefusedInit.binds fun _ _ _ _ _ _ us hl => match us, hl with | [_, _], _ => rfl
theorem bBox {K : PySem.W.Frag} {mg : Str → Option Value} (T : Txt K mg) : Binds K T.fdBox ["_law_script", "_law_k"] [] := T.FBox.binds fun _ _ _ _ _ _ us hl => match us, hl with | [_, _], _ => rfl
theorem bTake {K : PySem.W.Frag} {mg : Str → Option Value} (T : Txt K mg) : Binds K T.fdTake ["_law_box_here", "_law_many"] [] := T.FTake.binds fun _ _ _ _ _ _ us hl => match us, hl with | [_, _], _ => rfl
theorem bPick {K : PySem.W.Frag} {mg : Str → Option Value} (T : Txt K mg) : Binds K T.fdPick ["_law_box_here", "_law_some"] [] := T.FPick.binds fun _ _ _ _ _ _ us hl => match us, hl with | [_, _], _ => rfl
theorem bAny {K : PySem.W.Frag} {mg : Str → Option Value} (T : Txt K mg) : Binds K T.fdAny ["_law_box_here", "_law_deep"] [] := T.FAny.binds fun _ _ _ _ _ _ us hl => match us, hl with | [_, _], _ => rfl
theorem bMade {K : PySem.W.Frag} {mg : Str → Option Value} (T : Txt K mg) : Binds K T.fdMade ["_law_spot", "_law_value"] [] := T.FMade.binds fun _ _ _ _ _ _ us hl => match us, hl with | [_, _], _ => rfl
theorem bNamed {K : PySem.W.Frag} {mg : Str → Option Value} (T : Txt K mg) : Binds K T.fdNamed ["_law_spot", "_law_value"] [] := T.FNamed.binds fun _ _ _ _ _ _ us hl => match us, hl with | [_, _], _ => rfl
theorem bSorts {K : PySem.W.Frag} {mg : Str → Option Value} (T : Txt K mg) : Binds K T.fdSorts ["_law_e"] [] := T.FSorts.binds fun _ _ _ _ _ _ us hl => match us, hl with | [_], _ => rfl
theorem bIsKept {K : PySem.W.Frag} {mg : Str → Option Value} (T : Txt K mg) : Binds K T.fdIsKept ["_law_e", "_law_spot", "_law_value"] [] := T.FIsKept.binds fun _ _ _ _ _ _ us hl => match us, hl with | [_, _, _], _ => rfl
theorem bLaw {K : PySem.W.Frag} {mg : Str → Option Value} (T : Txt K mg) : Binds K T.fdLaw ["_law_script"] [] := T.FLaw.binds fun _ _ _ _ _ _ us hl => match us, hl with | [_], _ => rfl

section
variable {P : Program} {w : World} {K : PySem.W.Frag} {mg : Str → Option Value} {base : Heap}
theorem ok_take (T : Txt K mg) : FnOk P w K mg base CX0 1 T.fTake T.fdTake ["_law_box_here", "_law_many"] spTake := by
  refine T.FTake.ok scTake (fun vs H Q E h => ?_) (fun cdv A outer s H vs Q E hr h => ?_)
  · obtain ⟨b, m, rfl, _⟩ := h
    rfl
  · obtain ⟨b, m, rfl, hm, hm2, ⟨wd, sd, ct, hb⟩, k⟩ := h
    have m0 : m ≠ 0 := by omega
    refine ⟨_, (pss_cons (ps_if (pt_cmpR op_gt (pe_ix ix_list (pv 0) pe_int (fun _ _ => rfl)) pe_int (nomark _))
    (pss_cons (ps_set (i := 2) scTake.nd rfl (.inl rfl) (pe_op op_modN (pe_callTy call_int1 (by rfl) T.m_int (by decide +kernel) (pa_cons (pe_ix ix_list (pv 0) pe_int (fun _ _ => rfl)) pa_nil)) (pv 1)))
    (pss_cons (ps_asg (pe_op op_fdivN (pe_ix ix_list (pv 0) pe_int (fun _ _ => rfl)) (pv 1)) (pg_sub (pv 0) pe_int set_list))
    (pss_one (ps_ret (pv 2)))))
    pss_nil)
    (pss_cons (ps_asg (pe_op op_add (pe_ix ix_list (pv 0) pe_int (fun _ _ => rfl)) pe_int) (pg_sub (pv 0) pe_int set_list))
    (pss_cons (ps_set (i := 3) scTake.nd rfl (.inl rfl) (pe_op op_modN (pe_callTy call_int1 (by rfl) T.m_int (by decide +kernel) (pa_cons (pe_op op_mul (pe_op op_add (pe_ix ix_list (pv 0) pe_int (fun _ _ => rfl)) (pe_op op_mul pe_int (pe_ix ix_list (pv 0) pe_int (fun _ _ => rfl)))) pe_int) pa_nil)) pe_int))
    (pss_cons (ps_asg (pe_op op_add (pe_op op_modN (pe_callTy call_int1 (by rfl) T.m_int (by decide +kernel) (pa_cons (pe_op op_add (pe_op op_mul (pv 3) pe_int) pe_int) pa_nil)) pe_int) pe_int) (pg_sub (pv 0) pe_int set_list))
    (pss_one (ps_ret (pe_op op_modN (pe_callTy call_int1 (by rfl) T.m_int (by decide +kernel) (pa_cons (pe_op op_fdivN (pe_op op_add (pe_op op_mul (pv 3) pe_int) (pe_ix ix_list (pv 0) pe_int (fun _ _ => rfl))) pe_int) pa_nil)) (pv 1)))))))), ?_⟩
    walk_at "rd"
    refine ite2 (fun _ => ?_) (fun _ => ?_)
    · walk_at "rd"
      exact k _ _ (Int.fmod_nonneg_of_pos _ hm) (Int.fmod_lt_of_pos _ hm) ⟨_, _, _, upd_same⟩ (Kp.rf.wr rfl)
    · walk_at "rd"
      exact k _ _ (Int.fmod_nonneg_of_pos _ hm) (Int.fmod_lt_of_pos _ hm) ⟨_, _, _, upd_same⟩ (Kp.wr (M := (· = b)) (Kp.wr (M := (· = b)) Kp.rf rfl) rfl)
theorem ok_pick (T : Txt K mg) : FnOk P w K mg base CX0 2 T.fPick T.fdPick ["_law_box_here", "_law_some"] (spPick K) := by
  have GTake := ok_take (P := P) (w := w) (base := base) T
  refine T.FPick.ok scPick (fun vs H Q E h => ?_) (fun cdv A outer s H vs Q E hr h => ?_)
  · obtain ⟨b, a, xs, rfl, _⟩ := h
    rfl
  · obtain ⟨b, a, xs, rfl, hs, ne, h0, h1, hb, k⟩ := h
    refine ⟨_, (pss_one (ps_ret (pe_ix ix_list (pv 1) (pe_call GTake (hr.mono (by decide)) (by rfl) T.gTake T.FTake.kp (bTake T) .nil pass0 (pa_cons (pv 0) (pa_cons (pe_callB call_len_seq (by rfl) T.m_len (by decide +kernel) (pa_cons (pv 1) pa_nil)) pa_nil))) (fun _ _ => rfl)))), ?_⟩
    walk_at "rd"
    refine ⟨b, (xs.length : Int), rfl, by omega, by omega, hb, fun r H' h2 h3 hb' kp => ?_⟩
    obtain ⟨n, rfl⟩ := Int.eq_ofNat_of_zero_le h2
    have hn : n < xs.length := by omega
    refine ⟨a, xs, n, xs[n], rfl, rfl, kp.sql ne hs, atI_nat (List.getElem?_eq_getElem hn), ?_⟩
    exact k _ _ (List.getElem_mem hn) hb' kp
theorem ok_box (T : Txt K mg) : FnOk P w K mg base CX0 1 T.fBox T.fdBox ["_law_script", "_law_k"] (spBox K) := by
  refine T.FBox.ok scBox (fun vs H Q E h => ?_) (fun cdv A outer s H vs Q E hr h => ?_)
  · obtain ⟨a, ns, k, rfl, _⟩ := h
    rfl
  · obtain ⟨a, ns, k, rfl, hs, hl, h0, h1, q⟩ := h
    refine ⟨_, (pss_cons (ps_set (i := 2) scBox.nd rfl (.inl rfl) (pe_op op_add (pe_op op_mul pe_int (pv 1)) pe_int))
    (pss_cons (ps_if (pt_cmpR op_lt (pv 1) (pe_callB call_len_seq (by rfl) T.m_len (by decide +kernel) (pa_cons (pv 0) pa_nil)) (nomark _))
    (pss_one (ps_set (i := 2) scBox.nd rfl (.inl rfl) (pe_callB call_abs (by rfl) T.m_abs (by decide +kernel) (pa_cons (pe_callTy call_int1 (by rfl) T.m_int (by decide +kernel) (pa_cons (pe_ix ix_list (pv 0) (pv 1) (fun _ _ => rfl)) pa_nil)) pa_nil))))
    (pss_one (ps_if (pt_cmpR op_gt (pe_callB call_len_seq (by rfl) T.m_len (by decide +kernel) (pa_cons (pv 0) pa_nil)) pe_int (nomark _))
    (pss_one (ps_set (i := 2) scBox.nd rfl (.inl rfl) (pe_op op_add (pv 2) (pe_op op_mul (pe_op op_modN (pe_callTy call_int1 (by rfl) T.m_int (by decide +kernel) (pa_cons (pe_ix ix_list (pv 0) (pe_op op_modN (pe_callTy call_int1 (by rfl) T.m_int (by decide +kernel) (pa_cons (pv 1) pa_nil)) (pe_callB call_len_seq (by rfl) T.m_len (by decide +kernel) (pa_cons (pv 0) pa_nil))) (fun _ _ => rfl)) pa_nil)) pe_int) pe_int))))
    pss_nil)))
    (pss_cons (ps_set (i := 3) scBox.nd rfl (.inl rfl) (pe_op op_add (pe_op op_modN (pe_callTy call_int1 (by rfl) T.m_int (by decide +kernel) (pa_cons (pe_op op_add (pe_op op_add (pe_op op_mul (pe_op op_modN (pe_callTy call_int1 (by rfl) T.m_int (by decide +kernel) (pa_cons (pv 2) pa_nil)) pe_int) pe_int) (pe_op op_mul pe_int (pv 1))) pe_int) pa_nil)) pe_int) pe_int))
    (pss_cons (ps_set (i := 4) scBox.nd rfl (.inl rfl) (pe_ifExp (pt_cmpR op_ge (pv 2) (pe_op op_pow pe_int pe_int) (nomark _)) (pv 2) pe_int))
    (pss_one (ps_ret (pe_lst (pa_cons (pv 4) (pa_cons (pv 3) (pa_cons pe_int pa_nil)))))))))), ?_⟩
    walk_at "rd"
    have low : ∀ x : Int, 0 ≤ x.fmod 2147483629 ∧ x.fmod 2147483629 < 2147483629 := fun x => ⟨Int.fmod_nonneg_of_pos _ (by decide), Int.fmod_lt_of_pos _ (by decide)⟩
    have lm : (List.map V.int ns).length = ns.length := List.length_map ..
    refine ite2 (fun hk => ?_) (fun hk => ?_)
    · obtain ⟨n, rfl⟩ := Int.eq_ofNat_of_zero_le h0
      have hn : n < ns.length := by
        have := of_decide_eq_true hk
        omega
      walk_at "rd"
      refine ⟨a, _, n, .int ns[n], rfl, rfl, hs, atI_nat (by rw [List.getElem?_map, List.getElem?_eq_getElem hn]; rfl), ?_⟩
      walk_at "rd"
      refine ite2 (fun _ => ?_) (fun _ => ?_) <;> (walk_at "rd"; exact fun b hb => q b _ hb ⟨_, _, _, upd_same⟩ (same_new hb))
    · walk_at "rd"
      refine ite2 (fun hp => ?_) (fun hp => ?_)
      · have hp := of_decide_eq_true hp
        have l0 : ((List.map V.int ns).length : Int) ≠ 0 := by omega
        walk_at "rd"
        obtain ⟨n, en⟩ := Int.eq_ofNat_of_zero_le (Int.fmod_nonneg_of_pos k hp)
        have hn : n < ns.length := by
          have := Int.fmod_lt_of_pos k hp
          omega
        refine ⟨a, _, n, .int ns[n], rfl, congrArg V.int en, hs, atI_nat (by rw [List.getElem?_map, List.getElem?_eq_getElem hn]; rfl), ?_⟩
        walk_at "rd"
        refine ite2 (fun _ => ?_) (fun _ => ?_) <;> (walk_at "rd"; exact fun b hb => q b _ hb ⟨_, _, _, upd_same⟩ (same_new hb))
      · walk_at "rd"
        refine ite2 (fun _ => ?_) (fun _ => ?_) <;> (walk_at "rd"; exact fun b hb => q b _ hb ⟨_, _, _, upd_same⟩ (same_new hb))
end

section
variable {P : Program} {w : World} {K : PySem.W.Frag} {mg : Str → Option Value} {base : Heap}
theorem any_step (T : Txt K mg) (k : Nat) (GAny : FnOk P w K mg base CX0 (k + 2) T.fAny T.fdAny ["_law_box_here", "_law_deep"] (spAnyR k)) : FnOk P w K mg base CX0 (k + 3) T.fAny T.fdAny ["_law_box_here", "_law_deep"] (spAny k) := by
  have GTake := ok_take (P := P) (w := w) (base := base) T
  have GPick := ok_pick (P := P) (w := w) (base := base) T
  refine T.FAny.ok scAny (fun vs H Q E h => ?_) (fun cdv A outer s H vs Q E hr h => ?_)
  · obtain ⟨b, n, rfl, _⟩ := h
    rfl
  · obtain ⟨b, n, rfl, hn, hb, q⟩ := h
    have hr1 : Room 1 _ := hr.mono (Nat.succ_le_succ (Nat.zero_le _))
    have hr2 : Room 2 _ := hr.mono (Nat.le_add_left 2 k)
    refine ⟨_, (pss_cons (ps_set (i := 2) scAny.nd rfl (.inl rfl) (pe_call GTake hr1 (by rfl) T.gTake T.FTake.kp (bTake T) .nil pass0 (pa_cons (pv 0) (pa_cons pe_int pa_nil))))
    (pss_cons (ps_if (PW.pt (pw_and (pt_cmpR op_lt (pv 2) pe_int (nomark _)) (pw_and1 (pt_cmpR op_gt (pv 1) pe_int (nomark _)))))
    (pss_cons (ps_setLc (i := 3) (own := [("_law_k", 4)]) rfl scAny.nd rfl rfl (sw_true rfl rfl rfl (by decide +kernel)) (pi_range1 (by rfl) T.m_range (pa_cons (pe_call GTake hr1 (by rfl) T.gTake T.FTake.kp (bTake T) .nil pass0 (pa_cons (pv 0) (pa_cons pe_int pa_nil))) pa_nil)) (blkOk_by (own := [("_law_k", 4)]) (N := NAny) (sc := defScope sAny) (by decide +kernel)) (fun _ _ _ _ _ => by exact pg_name (i := 4) scAny.nd rfl (.inl rfl)) (fun _ _ _ _ _ => pts_nil) (fun _ _ _ _ _ => (pe_call GAny hr (by rfl) T.gAny T.FAny.kp (bAny T) .nil pass0 (pa_cons (pv 0) (pa_cons (pe_op op_sub (pv 1) pe_int) pa_nil)))))
    (pss_one (ps_ret (pe_ifExp (pt_cmpR op_lt (pv 2) pe_int (nomark _)) (pv 3) (pe_callTy call_tuple_of (by rfl) T.m_tuple (by decide +kernel) (pa_cons (pv 3) pa_nil))))))
    pss_nil)
    (pss_cons (ps_set (i := 5) scAny.nd rfl (.inl rfl) (pe_lst (pa_cons pe_str (pa_cons pe_str (pa_cons pe_str (pa_cons pe_str (pa_cons pe_str (pa_cons pe_str (pa_cons pe_str (pa_cons pe_str (pa_cons pe_str (pa_cons pe_str (pa_cons pe_str (pa_cons pe_str pa_nil))))))))))))))
    (pss_cons (ps_set (i := 6) scAny.nd rfl (.inl rfl) (pe_lst (pa_cons pe_non (pa_cons pe_bl (pa_cons pe_bl (pa_cons pe_int (pa_cons pe_int (pa_cons pe_int (pa_cons (pe_op op_sub pe_int pe_int) (pa_cons (pe_op op_sub (pe_op op_pow pe_int pe_int) pe_int) (pa_cons (pe_lst (pa_cons pe_int pa_nil)) (pa_cons (pe_tup (pa_cons pe_int (pa_cons pe_str (pa_cons pe_str pa_nil)))) (pa_cons (pe_tup (pa_cons pe_bl pa_nil)) (pa_cons (pe_lst (pa_cons pe_bl pa_nil)) pa_nil))))))))))))))
    (pss_one (ps_ret (pe_ifExp (pt_cmpR op_lt (pv 2) pe_int (nomark _)) (pe_call GPick hr2 (by rfl) T.gPick T.FPick.kp (bPick T) .nil pass0 (pa_cons (pv 0) (pa_cons (pv 5) pa_nil))) (pe_call GPick hr2 (by rfl) T.gPick T.FPick.kp (bPick T) .nil pass0 (pa_cons (pv 0) (pa_cons (pv 6) pa_nil)))))))))), ?_⟩
    walk_at "rd"
    refine ⟨b, 14, rfl, by decide, by decide, hb, fun r H1 r0 r1 hb1 k1 => ?_⟩
    walk_at "rd"
    have leaf : ∀ (v : V) (d : PyData) (H2 H' : Hp), Same H1 H2 → Dm (New H1) H2 v d → Sb d 2 20 → Bx H' b → Kp (· = b) H2 H' → Q v H' := fun v d H2 H' s2 hd hs hb' kp => by
      have k2 : Kp (· = b) H H2 := k1.tr (Kp.of s2)
      refine q v d H' ((Dm.mv (fun a o e m => ?_) d v hd)) (hs.up (by omega) ?_) hb' (k2.tr kp)
      · have na : a ≠ b := fun z => m (z ▸ Bx.new hb1)
        exact ⟨kp a o e na, k1.new (Bx.new hb1) m⟩
      · exact anyLn_ge k
    refine ite2 (fun c1 => ?a) (fun c1 => ?b)
    case' a =>
      walk_at "rd"
      refine ite2 (fun c2 => ?r) (fun c2 => ?b2)
    case' b => refine iteF ?_
    case r =>
      have hk : ∃ j, k = j + 1 := ⟨k - 1, by have := of_decide_eq_true c2; omega⟩
      obtain ⟨j, rfl⟩ := hk
      walk_at "rd"
      refine ⟨b, 3, rfl, by decide, by decide, hb1, fun r2 H2 p0 p1 hb2 k2 => ?_⟩
      have kA := k1.tr k2
      refine ⟨r2, rfl, by omega, by omega, fun D hD => ?_⟩
      have hDH : H D = none := by
        refine kA.back (fun e => ?_) hD
        rw [e] at hD
        exact (show H2 b ≠ none from Bx.new hb2) hD
      refine lc_range (lo := 0) (n := r2.toNat) (fun i H' => ∃ xs ds, H' D = some (.lst xs) ∧ xs.length = i ∧ DmAll (fun a => New H a ∨ a = D) H' xs ds ∧ (∀ d ∈ ds, Sb d (j + 2) (anyLn j)) ∧ Bx H' b ∧ Kp (· = b) H H') ?_ ?_ ?_
      · refine ⟨[], [], upd_same, rfl, .nil, (fun _ h => nomatch h), ?_, kA.wn hDH⟩
        obtain ⟨a1, a2, a3, e⟩ := hb2
        exact ⟨a1, a2, a3, by rw [upd_ne (nw2 hD e)]; exact e⟩
      · rintro i H3 hi ⟨xs, ds, e1, e2, e3, e4, hb3, k3⟩
        refine ⟨rfl, yes_if ?_⟩
        refine ⟨_, rfl, _, rfl, _, _, rfl, rfl, ?_⟩
        refine ⟨b, n - 1, rfl, by omega, hb3, fun v d H4 hd hs hb4 k4 => ?_⟩
        have nb : D ≠ b := fun e => by
          rw [e] at hDH
          exact (show H b ≠ none from Bx.new hb) hDH
        have nD : New H3 D := by
          rw [New, e1]
          exact fun y => nomatch y
        refine ⟨xs, k4 D _ e1 nb, szl (by omega), xs ++ [v], ds ++ [d], upd_same, by rw [List.length_append, e2]; rfl, ?_, ?_, ?_, ?_⟩
        · refine DmAll.app (DmAll.mv (fun a o h m => ⟨?_, m⟩) _ _ e3) (.cons (Dm.mv (fun a o h m => ⟨?_, ?_⟩) d v hd) .nil)
          · rw [upd_ne (fun z => m (.inr z))]
            exact k4 a o h fun z => m (.inl (by rw [z]; exact Bx.new hb))
          · rw [upd_ne (fun z => m (by rw [z]; exact nD))]
            exact h
          · rintro (z | z)
            · exact k3.new (Bx.new hb3) m z
            · exact m (by rw [z]; exact nD)
        · intro x hx
          rcases List.mem_append.mp hx with hx | hx
          · exact e4 x hx
          · cases List.mem_singleton.mp hx
            exact hs
        · obtain ⟨a1, a2, a3, e⟩ := hb4
          exact ⟨a1, a2, a3, by rw [upd_ne nb.symm]; exact e⟩
        · exact (k3.tr k4).wn hDH
      · rintro H3 ⟨xs, ds, e1, e2, e3, e4, hb3, k3⟩
        have hl : ds.length ≤ 2 := by
          rw [← DmAll.len e3]
          omega
        have e3' : DmAll (New H) H3 xs ds := DmAll.mv (fun a o h m => ⟨h, fun z => m (.inl z)⟩) _ _ e3
        walk_at "rd"
        refine ite2 (fun c3 => ?_) (fun c3 => ?_)
        · walk_at "rd"
          refine q _ _ H3 (.lst (new_of hDH) e1 e3') ((sb_list e4).up (by omega) ?_) hb3 k3
          have := Nat.mul_le_mul_left (anyLn j + 2) hl
          refine Nat.le_trans (Nat.add_le_add_right this 2) ?_
          exact Nat.le_succ _
        · walk_at "rd"
          refine ⟨D, xs, rfl, .inl ⟨SqL.of e1, fun l hl2 => ?_⟩⟩
          have hlb : l ≠ b := fun e => by
            rw [e] at hl2
            exact (show H3 b ≠ none from Bx.new hb3) hl2
          have hlH : H l = none := k3.back hlb hl2
          refine q _ _ _ (.tup (new_of hlH) upd_same (DmAll.mv (fun a o h m => ⟨?_, m⟩) _ _ e3')) ((sb_tuple e4).up (by omega) ?_) ?_ (k3.nw hl2)
          · rw [upd_ne (nw2 hl2 h)]
            exact h
          · have := Nat.mul_le_mul_left (anyLn j + 2) hl
            exact Nat.add_le_add_right this 3
          · obtain ⟨a1, a2, a3, e⟩ := hb3
            exact ⟨a1, a2, a3, by rw [upd_ne hlb.symm]; exact e⟩
    all_goals
      walk_at "rd"
      intro ws nws
      walk_at "rd"
      intro l1 n1
      walk_at "rd"
      intro t1 n2
      walk_at "rd"
      intro t2 n3
      walk_at "rd"
      intro l2 n4
      walk_at "rd"
      intro pl n5
      walk_at "rd"
      have s1 := (same_new nws).trans (same_new (o := .lst [V.int 1]) n1)
      have s2 := s1.trans (same_new (o := .tup [V.int 0, V.str "a", V.str "b"]) n2)
      have s3 := s2.trans (same_new (o := .tup [V.bl true]) n3)
      have s4 := s3.trans (same_new (o := .lst [V.bl false]) n4)
      have s5 := s4.trans (same_new (o := .lst [V.non, V.bl true, V.bl false, V.int 0, V.int 1, V.int 2, V.int (0 - 1), V.int (10 ^ (9 : Int).toNat - 1), V.ref l1, V.ref t1, V.ref t2, V.ref l2]) n5)
      have hb6 := hb1
      obtain ⟨z1, z2, z3, hz⟩ := hb6
      have nb : ∀ {p : Addr}, H1 p = none → p ≠ b := fun h => nw1 h hz
      refine ite2 (fun c3 => ?_) (fun c3 => ?_)
      · walk_at "rd"
        refine ⟨b, ws, _, rfl, SqL.of (by walk_at "hl"), nb nws, by decide, by decide, ⟨_, _, _, s5 _ _ hz⟩, fun v H' hv hb' kp => ?_⟩
        simp only [List.mem_cons, List.not_mem_nil, or_false] at hv
        rcases hv with rfl | rfl | rfl | rfl | rfl | rfl | rfl | rfl | rfl | rfl | rfl | rfl <;> exact leaf _ _ _ _ s5 (.str _) ⟨rfl, rfl, by decide, by decide +kernel⟩ hb' kp
      · walk_at "rd"
        refine ⟨b, pl, _, rfl, SqL.of (by walk_at "hl"), nb (s4.free n5), Nat.le_of_ble_eq_true rfl, Nat.le_of_ble_eq_true rfl, ⟨_, _, _, s5 _ _ hz⟩, fun v H' hv hb' kp => ?_⟩
        simp only [List.mem_cons, List.not_mem_nil, or_false] at hv
        rcases hv with rfl | rfl | rfl | rfl | rfl | rfl | rfl | rfl | rfl | rfl | rfl | rfl
        · exact leaf _ _ _ _ s5 .non ⟨rfl, rfl, by decide, by decide +kernel⟩ hb' kp
        · exact leaf _ _ _ _ s5 (.bl _) ⟨rfl, rfl, by decide, by decide +kernel⟩ hb' kp
        · exact leaf _ _ _ _ s5 (.bl _) ⟨rfl, rfl, by decide, by decide +kernel⟩ hb' kp
        · exact leaf _ _ _ _ s5 (.int _) ⟨by decide +kernel, rfl, by decide, by decide +kernel⟩ hb' kp
        · exact leaf _ _ _ _ s5 (.int _) ⟨by decide +kernel, rfl, by decide, by decide +kernel⟩ hb' kp
        · exact leaf _ _ _ _ s5 (.int _) ⟨by decide +kernel, rfl, by decide, by decide +kernel⟩ hb' kp
        · exact leaf _ _ _ _ s5 (.int _) ⟨by decide +kernel, rfl, by decide, by decide +kernel⟩ hb' kp
        · exact leaf _ _ _ _ s5 (.int _) ⟨by decide +kernel, rfl, by decide, by decide +kernel⟩ hb' kp
        · exact leaf _ _ _ _ s5 (.lst (new_of ((same_new nws).free n1)) (by walk_at "hl") (.cons (.int _) .nil)) ⟨by decide +kernel, rfl, by decide, by decide +kernel⟩ hb' kp
        · exact leaf _ _ _ _ s5 (.tup (new_of (s1.free n2)) (by walk_at "hl") (.cons (.int _) (.cons (.str _) (.cons (.str _) .nil)))) ⟨by decide +kernel, rfl, by decide, by decide +kernel⟩ hb' kp
        · exact leaf _ _ _ _ s5 (.tup (new_of (s2.free n3)) (by walk_at "hl") (.cons (.bl _) .nil)) ⟨by decide +kernel, rfl, by decide, by decide +kernel⟩ hb' kp
        · exact leaf _ _ _ _ s5 (.lst (new_of (s3.free n4)) (by walk_at "hl") (.cons (.bl _) .nil)) ⟨by decide +kernel, rfl, by decide, by decide +kernel⟩ hb' kp
theorem any_all (T : Txt K mg) : ∀ k : Nat, FnOk P w K mg base CX0 (k + 2) T.fAny T.fdAny ["_law_box_here", "_law_deep"] (spAnyR k)
  | 0 => ⟨fun _ _ _ _ h => h.elim, fun _ _ _ _ _ _ _ _ _ _ _ _ _ h => h.elim⟩
  | k + 1 => any_step T k (any_all T k)
theorem ok_any (T : Txt K mg) (k : Nat) : FnOk P w K mg base CX0 (k + 3) T.fAny T.fdAny ["_law_box_here", "_law_deep"] (spAny k) := any_all T (k + 1)
end

/-- the classes by their numbers, their fields -/
def cls {K : PySem.W.Frag} {mg : Str → Option Value} (T : Txt K mg) : Nat → Addr
  | 0 => T.CInvalidText | 1 => T.CInvalidRain | 2 => T.CInvalidSeen | 3 => T.CRefused | 4 => T.CInvalidWeek | 5 => T.CInvalidRule | 6 => T.CInvalidMeasure | _ => T.CInvalidCommand
def fld : Nat → Str
  | 0 => "at" | 1 => "at" | 2 => "at" | 3 => "at" | _ => "word"
section
variable {P : Program} {w : World} {K : PySem.W.Frag} {mg : Str → Option Value} {base : Heap}
theorem gx (T : Txt K mg) : ∀ i < 8, ExcC K (cls T i) := by
  intro i hi
  match i, hi with
  | 0, _ => exact T.tInvalidText.c
  | 1, _ => exact T.tInvalidRain.c
  | 2, _ => exact T.tInvalidSeen.c
  | 3, _ => exact T.tRefused.c
  | 4, _ => exact T.tInvalidWeek.c
  | 5, _ => exact T.tInvalidRule.c
  | 6, _ => exact T.tInvalidMeasure.c
  | 7, _ => exact T.tInvalidCommand.c
  | i + 8, h => omega
theorem gx7 (T : Txt K mg) : ∀ i < 7, XfC K (cls T i) ∧ PySem.W.findIn K (.ref (cls T i)) (fld i) = some none := by
  intro i hi
  match i, hi with
  | 0, _ => exact ⟨T.tInvalidText.x, T.tInvalidText.no⟩
  | 1, _ => exact ⟨T.tInvalidRain.x, T.tInvalidRain.no⟩
  | 2, _ => exact ⟨T.tInvalidSeen.x, T.tInvalidSeen.no⟩
  | 3, _ => exact ⟨T.tRefused.x, T.tRefused.no⟩
  | 4, _ => exact ⟨T.tInvalidWeek.x, T.tInvalidWeek.no⟩
  | 5, _ => exact ⟨T.tInvalidRule.x, T.tInvalidRule.no⟩
  | 6, _ => exact ⟨T.tInvalidMeasure.x, T.tInvalidMeasure.no⟩
  | i + 7, h => omega
theorem isF (T : Txt K mg) : ∀ i j, i < 8 → j < 8 → PySem.W.kitOne K (.ref (cls T i)) (.ref (cls T j)) = some (decide (i = j)) := by
  intro i j hi hj
  match i, j, hi, hj with
  | 0, 0, _, _ => exact kit_sub T.tInvalidText.c.hd T.tInvalidText.o.tyC T.isInvalidText_InvalidText T.isInvalidText_InvalidText
  | 0, 1, _, _ => exact kit_sub T.tInvalidRain.c.hd T.tInvalidRain.o.tyC T.isInvalidRain_InvalidRain T.isInvalidText_InvalidRain
  | 0, 2, _, _ => exact kit_sub T.tInvalidSeen.c.hd T.tInvalidSeen.o.tyC T.isInvalidSeen_InvalidSeen T.isInvalidText_InvalidSeen
  | 0, 3, _, _ => exact kit_sub T.tRefused.c.hd T.tRefused.o.tyC T.isRefused_Refused T.isInvalidText_Refused
  | 0, 4, _, _ => exact kit_sub T.tInvalidWeek.c.hd T.tInvalidWeek.o.tyC T.isInvalidWeek_InvalidWeek T.isInvalidText_InvalidWeek
  | 0, 5, _, _ => exact kit_sub T.tInvalidRule.c.hd T.tInvalidRule.o.tyC T.isInvalidRule_InvalidRule T.isInvalidText_InvalidRule
  | 0, 6, _, _ => exact kit_sub T.tInvalidMeasure.c.hd T.tInvalidMeasure.o.tyC T.isInvalidMeasure_InvalidMeasure T.isInvalidText_InvalidMeasure
  | 0, 7, _, _ => exact kit_sub T.tInvalidCommand.c.hd T.tInvalidCommand.o.tyC T.isInvalidCommand_InvalidCommand T.isInvalidText_InvalidCommand
  | 1, 0, _, _ => exact kit_sub T.tInvalidText.c.hd T.tInvalidText.o.tyC T.isInvalidText_InvalidText T.isInvalidRain_InvalidText
  | 1, 1, _, _ => exact kit_sub T.tInvalidRain.c.hd T.tInvalidRain.o.tyC T.isInvalidRain_InvalidRain T.isInvalidRain_InvalidRain
  | 1, 2, _, _ => exact kit_sub T.tInvalidSeen.c.hd T.tInvalidSeen.o.tyC T.isInvalidSeen_InvalidSeen T.isInvalidRain_InvalidSeen
  | 1, 3, _, _ => exact kit_sub T.tRefused.c.hd T.tRefused.o.tyC T.isRefused_Refused T.isInvalidRain_Refused
  | 1, 4, _, _ => exact kit_sub T.tInvalidWeek.c.hd T.tInvalidWeek.o.tyC T.isInvalidWeek_InvalidWeek T.isInvalidRain_InvalidWeek
  | 1, 5, _, _ => exact kit_sub T.tInvalidRule.c.hd T.tInvalidRule.o.tyC T.isInvalidRule_InvalidRule T.isInvalidRain_InvalidRule
  | 1, 6, _, _ => exact kit_sub T.tInvalidMeasure.c.hd T.tInvalidMeasure.o.tyC T.isInvalidMeasure_InvalidMeasure T.isInvalidRain_InvalidMeasure
  | 1, 7, _, _ => exact kit_sub T.tInvalidCommand.c.hd T.tInvalidCommand.o.tyC T.isInvalidCommand_InvalidCommand T.isInvalidRain_InvalidCommand
  | 2, 0, _, _ => exact kit_sub T.tInvalidText.c.hd T.tInvalidText.o.tyC T.isInvalidText_InvalidText T.isInvalidSeen_InvalidText
  | 2, 1, _, _ => exact kit_sub T.tInvalidRain.c.hd T.tInvalidRain.o.tyC T.isInvalidRain_InvalidRain T.isInvalidSeen_InvalidRain
  | 2, 2, _, _ => exact kit_sub T.tInvalidSeen.c.hd T.tInvalidSeen.o.tyC T.isInvalidSeen_InvalidSeen T.isInvalidSeen_InvalidSeen
  | 2, 3, _, _ => exact kit_sub T.tRefused.c.hd T.tRefused.o.tyC T.isRefused_Refused T.isInvalidSeen_Refused
  | 2, 4, _, _ => exact kit_sub T.tInvalidWeek.c.hd T.tInvalidWeek.o.tyC T.isInvalidWeek_InvalidWeek T.isInvalidSeen_InvalidWeek
  | 2, 5, _, _ => exact kit_sub T.tInvalidRule.c.hd T.tInvalidRule.o.tyC T.isInvalidRule_InvalidRule T.isInvalidSeen_InvalidRule
  | 2, 6, _, _ => exact kit_sub T.tInvalidMeasure.c.hd T.tInvalidMeasure.o.tyC T.isInvalidMeasure_InvalidMeasure T.isInvalidSeen_InvalidMeasure
  | 2, 7, _, _ => exact kit_sub T.tInvalidCommand.c.hd T.tInvalidCommand.o.tyC T.isInvalidCommand_InvalidCommand T.isInvalidSeen_InvalidCommand
  | 3, 0, _, _ => exact kit_sub T.tInvalidText.c.hd T.tInvalidText.o.tyC T.isInvalidText_InvalidText T.isRefused_InvalidText
  | 3, 1, _, _ => exact kit_sub T.tInvalidRain.c.hd T.tInvalidRain.o.tyC T.isInvalidRain_InvalidRain T.isRefused_InvalidRain
  | 3, 2, _, _ => exact kit_sub T.tInvalidSeen.c.hd T.tInvalidSeen.o.tyC T.isInvalidSeen_InvalidSeen T.isRefused_InvalidSeen
  | 3, 3, _, _ => exact kit_sub T.tRefused.c.hd T.tRefused.o.tyC T.isRefused_Refused T.isRefused_Refused
  | 3, 4, _, _ => exact kit_sub T.tInvalidWeek.c.hd T.tInvalidWeek.o.tyC T.isInvalidWeek_InvalidWeek T.isRefused_InvalidWeek
  | 3, 5, _, _ => exact kit_sub T.tInvalidRule.c.hd T.tInvalidRule.o.tyC T.isInvalidRule_InvalidRule T.isRefused_InvalidRule
  | 3, 6, _, _ => exact kit_sub T.tInvalidMeasure.c.hd T.tInvalidMeasure.o.tyC T.isInvalidMeasure_InvalidMeasure T.isRefused_InvalidMeasure
  | 3, 7, _, _ => exact kit_sub T.tInvalidCommand.c.hd T.tInvalidCommand.o.tyC T.isInvalidCommand_InvalidCommand T.isRefused_InvalidCommand
  | 4, 0, _, _ => exact kit_sub T.tInvalidText.c.hd T.tInvalidText.o.tyC T.isInvalidText_InvalidText T.isInvalidWeek_InvalidText
  | 4, 1, _, _ => exact kit_sub T.tInvalidRain.c.hd T.tInvalidRain.o.tyC T.isInvalidRain_InvalidRain T.isInvalidWeek_InvalidRain
  | 4, 2, _, _ => exact kit_sub T.tInvalidSeen.c.hd T.tInvalidSeen.o.tyC T.isInvalidSeen_InvalidSeen T.isInvalidWeek_InvalidSeen
  | 4, 3, _, _ => exact kit_sub T.tRefused.c.hd T.tRefused.o.tyC T.isRefused_Refused T.isInvalidWeek_Refused
  | 4, 4, _, _ => exact kit_sub T.tInvalidWeek.c.hd T.tInvalidWeek.o.tyC T.isInvalidWeek_InvalidWeek T.isInvalidWeek_InvalidWeek
  | 4, 5, _, _ => exact kit_sub T.tInvalidRule.c.hd T.tInvalidRule.o.tyC T.isInvalidRule_InvalidRule T.isInvalidWeek_InvalidRule
  | 4, 6, _, _ => exact kit_sub T.tInvalidMeasure.c.hd T.tInvalidMeasure.o.tyC T.isInvalidMeasure_InvalidMeasure T.isInvalidWeek_InvalidMeasure
  | 4, 7, _, _ => exact kit_sub T.tInvalidCommand.c.hd T.tInvalidCommand.o.tyC T.isInvalidCommand_InvalidCommand T.isInvalidWeek_InvalidCommand
  | 5, 0, _, _ => exact kit_sub T.tInvalidText.c.hd T.tInvalidText.o.tyC T.isInvalidText_InvalidText T.isInvalidRule_InvalidText
  | 5, 1, _, _ => exact kit_sub T.tInvalidRain.c.hd T.tInvalidRain.o.tyC T.isInvalidRain_InvalidRain T.isInvalidRule_InvalidRain
  | 5, 2, _, _ => exact kit_sub T.tInvalidSeen.c.hd T.tInvalidSeen.o.tyC T.isInvalidSeen_InvalidSeen T.isInvalidRule_InvalidSeen
  | 5, 3, _, _ => exact kit_sub T.tRefused.c.hd T.tRefused.o.tyC T.isRefused_Refused T.isInvalidRule_Refused
  | 5, 4, _, _ => exact kit_sub T.tInvalidWeek.c.hd T.tInvalidWeek.o.tyC T.isInvalidWeek_InvalidWeek T.isInvalidRule_InvalidWeek
  | 5, 5, _, _ => exact kit_sub T.tInvalidRule.c.hd T.tInvalidRule.o.tyC T.isInvalidRule_InvalidRule T.isInvalidRule_InvalidRule
  | 5, 6, _, _ => exact kit_sub T.tInvalidMeasure.c.hd T.tInvalidMeasure.o.tyC T.isInvalidMeasure_InvalidMeasure T.isInvalidRule_InvalidMeasure
  | 5, 7, _, _ => exact kit_sub T.tInvalidCommand.c.hd T.tInvalidCommand.o.tyC T.isInvalidCommand_InvalidCommand T.isInvalidRule_InvalidCommand
  | 6, 0, _, _ => exact kit_sub T.tInvalidText.c.hd T.tInvalidText.o.tyC T.isInvalidText_InvalidText T.isInvalidMeasure_InvalidText
  | 6, 1, _, _ => exact kit_sub T.tInvalidRain.c.hd T.tInvalidRain.o.tyC T.isInvalidRain_InvalidRain T.isInvalidMeasure_InvalidRain
  | 6, 2, _, _ => exact kit_sub T.tInvalidSeen.c.hd T.tInvalidSeen.o.tyC T.isInvalidSeen_InvalidSeen T.isInvalidMeasure_InvalidSeen
  | 6, 3, _, _ => exact kit_sub T.tRefused.c.hd T.tRefused.o.tyC T.isRefused_Refused T.isInvalidMeasure_Refused
  | 6, 4, _, _ => exact kit_sub T.tInvalidWeek.c.hd T.tInvalidWeek.o.tyC T.isInvalidWeek_InvalidWeek T.isInvalidMeasure_InvalidWeek
  | 6, 5, _, _ => exact kit_sub T.tInvalidRule.c.hd T.tInvalidRule.o.tyC T.isInvalidRule_InvalidRule T.isInvalidMeasure_InvalidRule
  | 6, 6, _, _ => exact kit_sub T.tInvalidMeasure.c.hd T.tInvalidMeasure.o.tyC T.isInvalidMeasure_InvalidMeasure T.isInvalidMeasure_InvalidMeasure
  | 6, 7, _, _ => exact kit_sub T.tInvalidCommand.c.hd T.tInvalidCommand.o.tyC T.isInvalidCommand_InvalidCommand T.isInvalidMeasure_InvalidCommand
  | 7, 0, _, _ => exact kit_sub T.tInvalidText.c.hd T.tInvalidText.o.tyC T.isInvalidText_InvalidText T.isInvalidCommand_InvalidText
  | 7, 1, _, _ => exact kit_sub T.tInvalidRain.c.hd T.tInvalidRain.o.tyC T.isInvalidRain_InvalidRain T.isInvalidCommand_InvalidRain
  | 7, 2, _, _ => exact kit_sub T.tInvalidSeen.c.hd T.tInvalidSeen.o.tyC T.isInvalidSeen_InvalidSeen T.isInvalidCommand_InvalidSeen
  | 7, 3, _, _ => exact kit_sub T.tRefused.c.hd T.tRefused.o.tyC T.isRefused_Refused T.isInvalidCommand_Refused
  | 7, 4, _, _ => exact kit_sub T.tInvalidWeek.c.hd T.tInvalidWeek.o.tyC T.isInvalidWeek_InvalidWeek T.isInvalidCommand_InvalidWeek
  | 7, 5, _, _ => exact kit_sub T.tInvalidRule.c.hd T.tInvalidRule.o.tyC T.isInvalidRule_InvalidRule T.isInvalidCommand_InvalidRule
  | 7, 6, _, _ => exact kit_sub T.tInvalidMeasure.c.hd T.tInvalidMeasure.o.tyC T.isInvalidMeasure_InvalidMeasure T.isInvalidCommand_InvalidMeasure
  | 7, 7, _, _ => exact kit_sub T.tInvalidCommand.c.hd T.tInvalidCommand.o.tyC T.isInvalidCommand_InvalidCommand T.isInvalidCommand_InvalidCommand
  | i + 8, _, h, _ => omega
  | _, j + 8, _, h => omega
theorem isR (T : Txt K mg) : ∀ i < 8, PySem.W.kitOne K (.ref (cls T i)) (.ref T.CRainError) = some true := by
  intro i hi
  match i, hi with
  | 0, _ => exact kit_sub T.cRainError.hd T.oRainError.tyC T.isRainError_RainError T.isInvalidText_RainError
  | 1, _ => exact kit_sub T.cRainError.hd T.oRainError.tyC T.isRainError_RainError T.isInvalidRain_RainError
  | 2, _ => exact kit_sub T.cRainError.hd T.oRainError.tyC T.isRainError_RainError T.isInvalidSeen_RainError
  | 3, _ => exact kit_sub T.cRainError.hd T.oRainError.tyC T.isRainError_RainError T.isRefused_RainError
  | 4, _ => exact kit_sub T.cRainError.hd T.oRainError.tyC T.isRainError_RainError T.isInvalidWeek_RainError
  | 5, _ => exact kit_sub T.cRainError.hd T.oRainError.tyC T.isRainError_RainError T.isInvalidRule_RainError
  | 6, _ => exact kit_sub T.cRainError.hd T.oRainError.tyC T.isRainError_RainError T.isInvalidMeasure_RainError
  | 7, _ => exact kit_sub T.cRainError.hd T.oRainError.tyC T.isRainError_RainError T.isInvalidCommand_RainError
  | i + 8, h => omega
theorem isV (T : Txt K mg) : ∀ i < 8, PySem.W.kitOne K (.ref (cls T i)) (.type "ValueError") = some true := by
  intro i hi
  match i, hi with
  | 0, _ => exact kit_subT (by decide +kernel) T.isInvalidText_V
  | 1, _ => exact kit_subT (by decide +kernel) T.isInvalidRain_V
  | 2, _ => exact kit_subT (by decide +kernel) T.isInvalidSeen_V
  | 3, _ => exact kit_subT (by decide +kernel) T.isRefused_V
  | 4, _ => exact kit_subT (by decide +kernel) T.isInvalidWeek_V
  | 5, _ => exact kit_subT (by decide +kernel) T.isInvalidRule_V
  | 6, _ => exact kit_subT (by decide +kernel) T.isInvalidMeasure_V
  | 7, _ => exact kit_subT (by decide +kernel) T.isInvalidCommand_V
  | i + 8, h => omega

/-- InvalidText(v) .. by number: a new exception of this class, v its field -/
def spMade (T : Txt K mg) : Sp := fun vs H Q _ => ∃ (i : Nat) (v : V), vs = [.int i, v] ∧ i < 8 ∧ (i < 7 → ∀ a dx, H a = none → H dx = none → dx ≠ a → Q (.ref a) (exH H (cls T i) (fld i) v a dx)) ∧ (i = 7 → ∀ a, H a = none → Q (.ref a) (upd H a (exo a T.CInvalidCommand none)))
def spNamed (T : Txt K mg) : Sp := fun vs H Q _ => ∃ (i : Nat) (v : V), vs = [.int i, v] ∧ i < 7 ∧ ∀ a dx, H a = none → H dx = none → dx ≠ a → Q (.ref a) (exH H (cls T i) (fld i) v a dx)
theorem gi_InvalidText (T : Txt K mg) : FnOk P w K mg base CX0 1 T.fInvalidTextInit T.fdInvalidTextInit ["self", "at"] (spXI T.CInvalidText "at") := ok_xi T.FInvalidTextInit T.tInvalidText scInvalidTextInit rfl (by decide) (by decide)
theorem bi_InvalidText (T : Txt K mg) (s : Shared) (a u : Value) : BindsTo s T.fdInvalidTextInit ⟨[a, u], []⟩ [("self", a), ("at", u)] := by
  obtain ⟨_, _, _, _, _, _, _, _, _, e, _, _⟩ := T.FInvalidTextInit.ex
  rw [e]
  exact .of_eq rfl
theorem bk_InvalidText (T : Txt K mg) (s : Shared) (a u : Value) : BindsTo s T.fdInvalidTextInit ⟨[a], [("at", u)]⟩ [("self", a), ("at", u)] := by
  obtain ⟨_, _, _, _, _, _, _, _, _, e, _, _⟩ := T.FInvalidTextInit.ex
  rw [e]
  exact .of_eq rfl
theorem gi_InvalidRain (T : Txt K mg) : FnOk P w K mg base CX0 1 T.fInvalidRainInit T.fdInvalidRainInit ["self", "at"] (spXI T.CInvalidRain "at") := ok_xi T.FInvalidRainInit T.tInvalidRain scInvalidRainInit rfl (by decide) (by decide)
theorem bi_InvalidRain (T : Txt K mg) (s : Shared) (a u : Value) : BindsTo s T.fdInvalidRainInit ⟨[a, u], []⟩ [("self", a), ("at", u)] := by
  obtain ⟨_, _, _, _, _, _, _, _, _, e, _, _⟩ := T.FInvalidRainInit.ex
  rw [e]
  exact .of_eq rfl
theorem bk_InvalidRain (T : Txt K mg) (s : Shared) (a u : Value) : BindsTo s T.fdInvalidRainInit ⟨[a], [("at", u)]⟩ [("self", a), ("at", u)] := by
  obtain ⟨_, _, _, _, _, _, _, _, _, e, _, _⟩ := T.FInvalidRainInit.ex
  rw [e]
  exact .of_eq rfl
theorem gi_InvalidSeen (T : Txt K mg) : FnOk P w K mg base CX0 1 T.fInvalidSeenInit T.fdInvalidSeenInit ["self", "at"] (spXI T.CInvalidSeen "at") := ok_xi T.FInvalidSeenInit T.tInvalidSeen scInvalidSeenInit rfl (by decide) (by decide)
theorem bi_InvalidSeen (T : Txt K mg) (s : Shared) (a u : Value) : BindsTo s T.fdInvalidSeenInit ⟨[a, u], []⟩ [("self", a), ("at", u)] := by
  obtain ⟨_, _, _, _, _, _, _, _, _, e, _, _⟩ := T.FInvalidSeenInit.ex
  rw [e]
  exact .of_eq rfl
theorem bk_InvalidSeen (T : Txt K mg) (s : Shared) (a u : Value) : BindsTo s T.fdInvalidSeenInit ⟨[a], [("at", u)]⟩ [("self", a), ("at", u)] := by
  obtain ⟨_, _, _, _, _, _, _, _, _, e, _, _⟩ := T.FInvalidSeenInit.ex
  rw [e]
  exact .of_eq rfl
theorem gi_Refused (T : Txt K mg) : FnOk P w K mg base CX0 1 T.fRefusedInit T.fdRefusedInit ["self", "at"] (spXI T.CRefused "at") := ok_xi T.FRefusedInit T.tRefused scRefusedInit rfl (by decide) (by decide)
theorem bi_Refused (T : Txt K mg) (s : Shared) (a u : Value) : BindsTo s T.fdRefusedInit ⟨[a, u], []⟩ [("self", a), ("at", u)] := by
  obtain ⟨_, _, _, _, _, _, _, _, _, e, _, _⟩ := T.FRefusedInit.ex
  rw [e]
  exact .of_eq rfl
theorem bk_Refused (T : Txt K mg) (s : Shared) (a u : Value) : BindsTo s T.fdRefusedInit ⟨[a], [("at", u)]⟩ [("self", a), ("at", u)] := by
  obtain ⟨_, _, _, _, _, _, _, _, _, e, _, _⟩ := T.FRefusedInit.ex
  rw [e]
  exact .of_eq rfl
theorem gi_InvalidWeek (T : Txt K mg) : FnOk P w K mg base CX0 1 T.fInvalidWeekInit T.fdInvalidWeekInit ["self", "word"] (spXI T.CInvalidWeek "word") := ok_xi T.FInvalidWeekInit T.tInvalidWeek scInvalidWeekInit rfl (by decide) (by decide)
theorem bi_InvalidWeek (T : Txt K mg) (s : Shared) (a u : Value) : BindsTo s T.fdInvalidWeekInit ⟨[a, u], []⟩ [("self", a), ("word", u)] := by
  obtain ⟨_, _, _, _, _, _, _, _, _, e, _, _⟩ := T.FInvalidWeekInit.ex
  rw [e]
  exact .of_eq rfl
theorem bk_InvalidWeek (T : Txt K mg) (s : Shared) (a u : Value) : BindsTo s T.fdInvalidWeekInit ⟨[a], [("word", u)]⟩ [("self", a), ("word", u)] := by
  obtain ⟨_, _, _, _, _, _, _, _, _, e, _, _⟩ := T.FInvalidWeekInit.ex
  rw [e]
  exact .of_eq rfl
theorem gi_InvalidRule (T : Txt K mg) : FnOk P w K mg base CX0 1 T.fInvalidRuleInit T.fdInvalidRuleInit ["self", "word"] (spXI T.CInvalidRule "word") := ok_xi T.FInvalidRuleInit T.tInvalidRule scInvalidRuleInit rfl (by decide) (by decide)
theorem bi_InvalidRule (T : Txt K mg) (s : Shared) (a u : Value) : BindsTo s T.fdInvalidRuleInit ⟨[a, u], []⟩ [("self", a), ("word", u)] := by
  obtain ⟨_, _, _, _, _, _, _, _, _, e, _, _⟩ := T.FInvalidRuleInit.ex
  rw [e]
  exact .of_eq rfl
theorem bk_InvalidRule (T : Txt K mg) (s : Shared) (a u : Value) : BindsTo s T.fdInvalidRuleInit ⟨[a], [("word", u)]⟩ [("self", a), ("word", u)] := by
  obtain ⟨_, _, _, _, _, _, _, _, _, e, _, _⟩ := T.FInvalidRuleInit.ex
  rw [e]
  exact .of_eq rfl
theorem gi_InvalidMeasure (T : Txt K mg) : FnOk P w K mg base CX0 1 T.fInvalidMeasureInit T.fdInvalidMeasureInit ["self", "word"] (spXI T.CInvalidMeasure "word") := ok_xi T.FInvalidMeasureInit T.tInvalidMeasure scInvalidMeasureInit rfl (by decide) (by decide)
theorem bi_InvalidMeasure (T : Txt K mg) (s : Shared) (a u : Value) : BindsTo s T.fdInvalidMeasureInit ⟨[a, u], []⟩ [("self", a), ("word", u)] := by
  obtain ⟨_, _, _, _, _, _, _, _, _, e, _, _⟩ := T.FInvalidMeasureInit.ex
  rw [e]
  exact .of_eq rfl
theorem bk_InvalidMeasure (T : Txt K mg) (s : Shared) (a u : Value) : BindsTo s T.fdInvalidMeasureInit ⟨[a], [("word", u)]⟩ [("self", a), ("word", u)] := by
  obtain ⟨_, _, _, _, _, _, _, _, _, e, _, _⟩ := T.FInvalidMeasureInit.ex
  rw [e]
  exact .of_eq rfl
theorem gi_InvalidCommand (T : Txt K mg) : FnOk P w K mg base CX0 1 T.fInvalidCommandInit T.fdInvalidCommandInit ["self"] (spXI0 T.CInvalidCommand) := by
  refine T.FInvalidCommandInit.ok scInvalidCommandInit (fun vs H Q E h => ?_) (fun cdv A outer s H vs Q E hr h => ?_)
  · obtain ⟨a, rfl, _⟩ := h
    rfl
  · obtain ⟨a, rfl, _, q⟩ := h
    exact ⟨_, pss_one ps_pass, q⟩
theorem bi_InvalidCommand (T : Txt K mg) (s : Shared) (a : Value) : BindsTo s T.fdInvalidCommandInit ⟨[a], []⟩ [("self", a)] := by
  obtain ⟨_, _, _, _, _, _, _, _, _, e, _, _⟩ := T.FInvalidCommandInit.ex
  rw [e]
  exact .of_eq rfl

theorem ok_made (T : Txt K mg) : FnOk P w K mg base CX0 3 T.fMade T.fdMade ["_law_spot", "_law_value"] (spMade T) := by
  refine T.FMade.ok scMade (fun vs H Q E h => ?_) (fun cdv A outer s H vs Q E hr h => ?_)
  · obtain ⟨i, v, rfl, _⟩ := h
    rfl
  · obtain ⟨i, v, rfl, hi, q, q7⟩ := h
    refine ⟨_, (pss_cons (ps_if (pt_cmpR op_lt (pv 0) pe_int (nomark _))
    (pss_cons (ps_if (pt_cmpR op_lt (pv 0) pe_int (nomark _))
    (pss_one (ps_ret (pe_ifExp (pt_cmpR op_eq (pv 0) pe_int (nomark _)) (pe_ex1 T.tInvalidText (gi_InvalidText T) hr (bi_InvalidText T) (by rfl) T.gInvalidText (pv 1)) (pe_ex1 T.tInvalidRain (gi_InvalidRain T) hr (bi_InvalidRain T) (by rfl) T.gInvalidRain (pv 1)))))
    pss_nil)
    (pss_one (ps_ret (pe_ifExp (pt_cmpR op_eq (pv 0) pe_int (nomark _)) (pe_ex1 T.tInvalidSeen (gi_InvalidSeen T) hr (bi_InvalidSeen T) (by rfl) T.gInvalidSeen (pv 1)) (pe_ex1 T.tRefused (gi_Refused T) hr (bi_Refused T) (by rfl) T.gRefused (pv 1))))))
    pss_nil)
    (pss_cons (ps_if (pt_cmpR op_lt (pv 0) pe_int (nomark _))
    (pss_one (ps_ret (pe_ifExp (pt_cmpR op_eq (pv 0) pe_int (nomark _)) (pe_ex1 T.tInvalidWeek (gi_InvalidWeek T) hr (bi_InvalidWeek T) (by rfl) T.gInvalidWeek (pv 1)) (pe_ex1 T.tInvalidRule (gi_InvalidRule T) hr (bi_InvalidRule T) (by rfl) T.gInvalidRule (pv 1)))))
    pss_nil)
    (pss_one (ps_ret (pe_ifExp (pt_cmpR op_eq (pv 0) pe_int (nomark _)) (pe_ex1 T.tInvalidMeasure (gi_InvalidMeasure T) hr (bi_InvalidMeasure T) (by rfl) T.gInvalidMeasure (pv 1)) (pe_ex0 T.tInvalidCommand (gi_InvalidCommand T) hr (bi_InvalidCommand T) (by rfl) T.gInvalidCommand)))))), ?_⟩
    match i, hi, q, q7 with
    | 0, _, q, _ => (walk_at "rd"; (try (refine ite2 (fun c => ?_) (fun c => ?_) <;> first | exact absurd c (by decide) | skip)); walk_at "rd"; (try (refine ite2 (fun c => ?_) (fun c => ?_) <;> first | exact absurd c (by decide) | skip)); walk_at "rd"; (try (refine ite2 (fun c => ?_) (fun c => ?_) <;> first | exact absurd c (by decide) | skip)); walk_at "rd"); exact fun a dx h1 h2 h3 => q (by decide) a dx h1 h2 h3
    | 1, _, q, _ => (walk_at "rd"; (try (refine ite2 (fun c => ?_) (fun c => ?_) <;> first | exact absurd c (by decide) | skip)); walk_at "rd"; (try (refine ite2 (fun c => ?_) (fun c => ?_) <;> first | exact absurd c (by decide) | skip)); walk_at "rd"; (try (refine ite2 (fun c => ?_) (fun c => ?_) <;> first | exact absurd c (by decide) | skip)); walk_at "rd"); exact fun a dx h1 h2 h3 => q (by decide) a dx h1 h2 h3
    | 2, _, q, _ => (walk_at "rd"; (try (refine ite2 (fun c => ?_) (fun c => ?_) <;> first | exact absurd c (by decide) | skip)); walk_at "rd"; (try (refine ite2 (fun c => ?_) (fun c => ?_) <;> first | exact absurd c (by decide) | skip)); walk_at "rd"; (try (refine ite2 (fun c => ?_) (fun c => ?_) <;> first | exact absurd c (by decide) | skip)); walk_at "rd"); exact fun a dx h1 h2 h3 => q (by decide) a dx h1 h2 h3
    | 3, _, q, _ => (walk_at "rd"; (try (refine ite2 (fun c => ?_) (fun c => ?_) <;> first | exact absurd c (by decide) | skip)); walk_at "rd"; (try (refine ite2 (fun c => ?_) (fun c => ?_) <;> first | exact absurd c (by decide) | skip)); walk_at "rd"; (try (refine ite2 (fun c => ?_) (fun c => ?_) <;> first | exact absurd c (by decide) | skip)); walk_at "rd"); exact fun a dx h1 h2 h3 => q (by decide) a dx h1 h2 h3
    | 4, _, q, _ => (walk_at "rd"; (try (refine ite2 (fun c => ?_) (fun c => ?_) <;> first | exact absurd c (by decide) | skip)); walk_at "rd"; (try (refine ite2 (fun c => ?_) (fun c => ?_) <;> first | exact absurd c (by decide) | skip)); walk_at "rd"; (try (refine ite2 (fun c => ?_) (fun c => ?_) <;> first | exact absurd c (by decide) | skip)); walk_at "rd"); exact fun a dx h1 h2 h3 => q (by decide) a dx h1 h2 h3
    | 5, _, q, _ => (walk_at "rd"; (try (refine ite2 (fun c => ?_) (fun c => ?_) <;> first | exact absurd c (by decide) | skip)); walk_at "rd"; (try (refine ite2 (fun c => ?_) (fun c => ?_) <;> first | exact absurd c (by decide) | skip)); walk_at "rd"; (try (refine ite2 (fun c => ?_) (fun c => ?_) <;> first | exact absurd c (by decide) | skip)); walk_at "rd"); exact fun a dx h1 h2 h3 => q (by decide) a dx h1 h2 h3
    | 6, _, q, _ => (walk_at "rd"; (try (refine ite2 (fun c => ?_) (fun c => ?_) <;> first | exact absurd c (by decide) | skip)); walk_at "rd"; (try (refine ite2 (fun c => ?_) (fun c => ?_) <;> first | exact absurd c (by decide) | skip)); walk_at "rd"; (try (refine ite2 (fun c => ?_) (fun c => ?_) <;> first | exact absurd c (by decide) | skip)); walk_at "rd"); exact fun a dx h1 h2 h3 => q (by decide) a dx h1 h2 h3
    | 7, _, _, q => (walk_at "rd"; (try (refine ite2 (fun c => ?_) (fun c => ?_) <;> first | exact absurd c (by decide) | skip)); walk_at "rd"; (try (refine ite2 (fun c => ?_) (fun c => ?_) <;> first | exact absurd c (by decide) | skip)); walk_at "rd"; (try (refine ite2 (fun c => ?_) (fun c => ?_) <;> first | exact absurd c (by decide) | skip)); walk_at "rd"); exact fun a h => q rfl a h
    | i + 8, h, _, _ => omega
theorem ok_named (T : Txt K mg) : FnOk P w K mg base CX0 3 T.fNamed T.fdNamed ["_law_spot", "_law_value"] (spNamed T) := by
  refine T.FNamed.ok scNamed (fun vs H Q E h => ?_) (fun cdv A outer s H vs Q E hr h => ?_)
  · obtain ⟨i, v, rfl, _⟩ := h
    rfl
  · obtain ⟨i, v, rfl, hi, q⟩ := h
    refine ⟨_, (pss_cons (ps_if (pt_cmpR op_lt (pv 0) pe_int (nomark _))
    (pss_cons (ps_if (pt_cmpR op_lt (pv 0) pe_int (nomark _))
    (pss_one (ps_ret (pe_ifExp (pt_cmpR op_eq (pv 0) pe_int (nomark _)) (pe_ex1k T.tInvalidText (gi_InvalidText T) hr (bk_InvalidText T) (by rfl) T.gInvalidText (pv 1)) (pe_ex1k T.tInvalidRain (gi_InvalidRain T) hr (bk_InvalidRain T) (by rfl) T.gInvalidRain (pv 1)))))
    pss_nil)
    (pss_one (ps_ret (pe_ifExp (pt_cmpR op_eq (pv 0) pe_int (nomark _)) (pe_ex1k T.tInvalidSeen (gi_InvalidSeen T) hr (bk_InvalidSeen T) (by rfl) T.gInvalidSeen (pv 1)) (pe_ex1k T.tRefused (gi_Refused T) hr (bk_Refused T) (by rfl) T.gRefused (pv 1))))))
    pss_nil)
    (pss_cons (ps_if (pt_cmpR op_lt (pv 0) pe_int (nomark _))
    (pss_one (ps_ret (pe_ifExp (pt_cmpR op_eq (pv 0) pe_int (nomark _)) (pe_ex1k T.tInvalidWeek (gi_InvalidWeek T) hr (bk_InvalidWeek T) (by rfl) T.gInvalidWeek (pv 1)) (pe_ex1k T.tInvalidRule (gi_InvalidRule T) hr (bk_InvalidRule T) (by rfl) T.gInvalidRule (pv 1)))))
    pss_nil)
    (pss_one (ps_ret (pe_ex1k T.tInvalidMeasure (gi_InvalidMeasure T) hr (bk_InvalidMeasure T) (by rfl) T.gInvalidMeasure (pv 1)))))), ?_⟩
    match i, hi, q with
    | 0, _, q => (walk_at "rd"; (try (refine ite2 (fun c => ?_) (fun c => ?_) <;> first | exact absurd c (by decide) | skip)); walk_at "rd"; (try (refine ite2 (fun c => ?_) (fun c => ?_) <;> first | exact absurd c (by decide) | skip)); walk_at "rd"; (try (refine ite2 (fun c => ?_) (fun c => ?_) <;> first | exact absurd c (by decide) | skip)); walk_at "rd"); exact fun a dx h1 h2 h3 => q a dx h1 h2 h3
    | 1, _, q => (walk_at "rd"; (try (refine ite2 (fun c => ?_) (fun c => ?_) <;> first | exact absurd c (by decide) | skip)); walk_at "rd"; (try (refine ite2 (fun c => ?_) (fun c => ?_) <;> first | exact absurd c (by decide) | skip)); walk_at "rd"; (try (refine ite2 (fun c => ?_) (fun c => ?_) <;> first | exact absurd c (by decide) | skip)); walk_at "rd"); exact fun a dx h1 h2 h3 => q a dx h1 h2 h3
    | 2, _, q => (walk_at "rd"; (try (refine ite2 (fun c => ?_) (fun c => ?_) <;> first | exact absurd c (by decide) | skip)); walk_at "rd"; (try (refine ite2 (fun c => ?_) (fun c => ?_) <;> first | exact absurd c (by decide) | skip)); walk_at "rd"; (try (refine ite2 (fun c => ?_) (fun c => ?_) <;> first | exact absurd c (by decide) | skip)); walk_at "rd"); exact fun a dx h1 h2 h3 => q a dx h1 h2 h3
    | 3, _, q => (walk_at "rd"; (try (refine ite2 (fun c => ?_) (fun c => ?_) <;> first | exact absurd c (by decide) | skip)); walk_at "rd"; (try (refine ite2 (fun c => ?_) (fun c => ?_) <;> first | exact absurd c (by decide) | skip)); walk_at "rd"; (try (refine ite2 (fun c => ?_) (fun c => ?_) <;> first | exact absurd c (by decide) | skip)); walk_at "rd"); exact fun a dx h1 h2 h3 => q a dx h1 h2 h3
    | 4, _, q => (walk_at "rd"; (try (refine ite2 (fun c => ?_) (fun c => ?_) <;> first | exact absurd c (by decide) | skip)); walk_at "rd"; (try (refine ite2 (fun c => ?_) (fun c => ?_) <;> first | exact absurd c (by decide) | skip)); walk_at "rd"; (try (refine ite2 (fun c => ?_) (fun c => ?_) <;> first | exact absurd c (by decide) | skip)); walk_at "rd"); exact fun a dx h1 h2 h3 => q a dx h1 h2 h3
    | 5, _, q => (walk_at "rd"; (try (refine ite2 (fun c => ?_) (fun c => ?_) <;> first | exact absurd c (by decide) | skip)); walk_at "rd"; (try (refine ite2 (fun c => ?_) (fun c => ?_) <;> first | exact absurd c (by decide) | skip)); walk_at "rd"; (try (refine ite2 (fun c => ?_) (fun c => ?_) <;> first | exact absurd c (by decide) | skip)); walk_at "rd"); exact fun a dx h1 h2 h3 => q a dx h1 h2 h3
    | 6, _, q => (walk_at "rd"; (try (refine ite2 (fun c => ?_) (fun c => ?_) <;> first | exact absurd c (by decide) | skip)); walk_at "rd"; (try (refine ite2 (fun c => ?_) (fun c => ?_) <;> first | exact absurd c (by decide) | skip)); walk_at "rd"; (try (refine ite2 (fun c => ?_) (fun c => ?_) <;> first | exact absurd c (by decide) | skip)); walk_at "rd"); exact fun a dx h1 h2 h3 => q a dx h1 h2 h3
    | i + 7, h, _ => omega
/-- what an exception of number i is at e -/
def ExI (T : Txt K mg) (H : Hp) (i : Nat) (e : Addr) : Prop := ∃ d, H e = some (exo e (cls T i) d) ∧ ∀ dx, d = some dx → ∃ fs, H dx = some (exd dx fs)
def spSorts (T : Txt K mg) : Sp := fun vs H Q _ => ∃ (e : Addr) (i : Nat), vs = [.ref e] ∧ i < 8 ∧ ExI T H i e ∧ ∀ (p : Addr) (H' : Hp), H p = none → H' p = some (.lst [.int i]) → Same H H' → Q (.ref p) H'
def sorts (i : Nat) : List V := ((List.range 8).filter fun j => decide (i = j)).map fun j => .int (j : Nat)
theorem sorts_eq : ∀ i < 8, sorts i = [.int i] := by decide
theorem ok_sorts (T : Txt K mg) : FnOk P w K mg base CX0 1 T.fSorts T.fdSorts ["_law_e"] (spSorts T) := by
  refine T.FSorts.ok scSorts (fun vs H Q E h => ?_) (fun cdv A outer s H vs Q E hr h => ?_)
  · obtain ⟨e, i, rfl, _⟩ := h
    rfl
  · obtain ⟨e, i, rfl, hi, ⟨d, he, hd⟩, q⟩ := h
    refine ⟨_, (pss_cons (ps_set (i := 1) scSorts.nd rfl (.inl rfl) (pe_lst (pa_cons (pe_callB call_isX (by rfl) T.m_isinstance (by decide +kernel) (pa_cons (pv 0) (pa_cons (pe_glob (v := .ref T.CInvalidText) rfl T.gInvalidText rfl) pa_nil))) (pa_cons (pe_callB call_isX (by rfl) T.m_isinstance (by decide +kernel) (pa_cons (pv 0) (pa_cons (pe_glob (v := .ref T.CInvalidRain) rfl T.gInvalidRain rfl) pa_nil))) (pa_cons (pe_callB call_isX (by rfl) T.m_isinstance (by decide +kernel) (pa_cons (pv 0) (pa_cons (pe_glob (v := .ref T.CInvalidSeen) rfl T.gInvalidSeen rfl) pa_nil))) pa_nil)))))
    (pss_cons (ps_set (i := 1) scSorts.nd rfl (.inl rfl) (pe_op op_cat (pv 1) (pe_lst (pa_cons (pe_callB call_isX (by rfl) T.m_isinstance (by decide +kernel) (pa_cons (pv 0) (pa_cons (pe_glob (v := .ref T.CRefused) rfl T.gRefused rfl) pa_nil))) (pa_cons (pe_callB call_isX (by rfl) T.m_isinstance (by decide +kernel) (pa_cons (pv 0) (pa_cons (pe_glob (v := .ref T.CInvalidWeek) rfl T.gInvalidWeek rfl) pa_nil))) (pa_cons (pe_callB call_isX (by rfl) T.m_isinstance (by decide +kernel) (pa_cons (pv 0) (pa_cons (pe_glob (v := .ref T.CInvalidRule) rfl T.gInvalidRule rfl) pa_nil))) pa_nil))))))
    (pss_cons (ps_set (i := 1) scSorts.nd rfl (.inl rfl) (pe_op op_cat (pv 1) (pe_lst (pa_cons (pe_callB call_isX (by rfl) T.m_isinstance (by decide +kernel) (pa_cons (pv 0) (pa_cons (pe_glob (v := .ref T.CInvalidMeasure) rfl T.gInvalidMeasure rfl) pa_nil))) (pa_cons (pe_callB call_isX (by rfl) T.m_isinstance (by decide +kernel) (pa_cons (pv 0) (pa_cons (pe_glob (v := .ref T.CInvalidCommand) rfl T.gInvalidCommand rfl) pa_nil))) pa_nil)))))
    (pss_one (ps_ret (pe_lc (own := [("_law_spot", 2), ("_law_is_so", 3)]) (g := gTup K 2 (gCons (gName 2) (gCons (gName 3) gNil))) rfl scSorts.nd (pi_enum (by rfl) T.m_enumerate (pa_cons (pv 1) pa_nil)) (blkOk_by (own := [("_law_spot", 2), ("_law_is_so", 3)]) (N := NSorts) (sc := defScope sSorts) (by decide +kernel)) (fun _ _ _ _ _ => by exact pg_tup rfl (pgs_cons (pg_name (i := 2) scSorts.nd rfl (.inl rfl)) (pgs_cons (pg_name (i := 3) scSorts.nd rfl (.inl rfl)) pgs_nil))) (fun _ _ _ _ _ => (pts_one (pt_val (pv 3)))) (fun _ _ _ _ _ => (pv 2)))))))), ?_⟩
    have hx : ∀ H', Same H H' → ∀ dx, d = some dx → ∃ fs, H' dx = some (exd dx fs) := fun H' s2 dx hx => let ⟨fs, z⟩ := hd dx hx; ⟨fs, s2 _ _ z⟩
    have S0 := Same.refl H
    refine ⟨_, rfl, _, _, _, e, cls T i, d, rfl, S0 _ _ he, hx _ S0, gx T i hi, .own _, isF T i 0 hi (by decide), _, rfl, _, _, _, e, cls T i, d, rfl, S0 _ _ he, hx _ S0, gx T i hi, .own _, isF T i 1 hi (by decide), _, rfl, _, _, _, e, cls T i, d, rfl, S0 _ _ he, hx _ S0, gx T i hi, .own _, isF T i 2 hi (by decide), sz (Nat.le_of_ble_eq_true rfl), fun p1 n1 => ?_⟩
    replace S0 := S0.trans (same_new (o := .lst [.bl (decide (i = 0)), .bl (decide (i = 1)), .bl (decide (i = 2))]) n1)
    refine ⟨_, rfl, _, rfl, _, _, _, e, cls T i, d, rfl, S0 _ _ he, hx _ S0, gx T i hi, .own _, isF T i 3 hi (by decide), _, rfl, _, _, _, e, cls T i, d, rfl, S0 _ _ he, hx _ S0, gx T i hi, .own _, isF T i 4 hi (by decide), _, rfl, _, _, _, e, cls T i, d, rfl, S0 _ _ he, hx _ S0, gx T i hi, .own _, isF T i 5 hi (by decide), sz (Nat.le_of_ble_eq_true rfl), fun p2 n2 => ?_⟩
    replace S0 := S0.trans (same_new (o := .lst [.bl (decide (i = 3)), .bl (decide (i = 4)), .bl (decide (i = 5))]) n2)
    refine ⟨p1, p2, _, _, rfl, rfl, by walk_at "hl", by walk_at "hl", sz (Nat.le_of_ble_eq_true rfl), fun p3 n3 => ?_⟩
    replace S0 := S0.trans (same_new (o := .lst ([.bl (decide (i = 0)), .bl (decide (i = 1)), .bl (decide (i = 2))] ++ [.bl (decide (i = 3)), .bl (decide (i = 4)), .bl (decide (i = 5))])) n3)
    refine ⟨_, rfl, _, rfl, _, _, _, e, cls T i, d, rfl, S0 _ _ he, hx _ S0, gx T i hi, .own _, isF T i 6 hi (by decide), _, rfl, _, _, _, e, cls T i, d, rfl, S0 _ _ he, hx _ S0, gx T i hi, .own _, isF T i 7 hi (by decide), sz (Nat.le_of_ble_eq_true rfl), fun p4 n4 => ?_⟩
    replace S0 := S0.trans (same_new (o := .lst [.bl (decide (i = 6)), .bl (decide (i = 7))]) n4)
    refine ⟨p3, p4, _, _, rfl, rfl, by walk_at "hl", by walk_at "hl", sz (Nat.le_of_ble_eq_true rfl), fun p5 n5 => ?_⟩
    replace S0 := S0.trans (same_new (o := .lst ((List.range 8).map fun j => V.bl (decide (i = j)))) n5)
    refine ⟨_, rfl, p5, (List.range 8).map fun j => V.bl (decide (i = j)), rfl, SqL.of upd_same, fun D hD => ?_⟩
    have np : p5 ≠ D := nw2 hD upd_same
    refine lc_by (n := 8) (fun k H' => H' D = some (.lst (((List.range k).filter fun j => decide (i = j)).map fun j => .int (j : Nat))) ∧ H' p5 = some (.lst ((List.range 8).map fun j => V.bl (decide (i = j)))) ∧ Same H H') ?_ ?_ ?_ ?_ ?_
    · exact ⟨upd_same, by rw [upd_ne (nw2 hD upd_same)]; exact upd_same, S0.trans (same_new hD)⟩
    · rintro k H1 hk ⟨e1, e2, s2⟩
      exact ⟨_, V.bl (decide (i = k)), SqL.of e2, by rw [List.getElem?_map, List.getElem?_range hk]; rfl⟩
    · rintro H1 ⟨e1, e2, s2⟩
      exact ⟨_, SqL.of e2, Nat.le_of_eq rfl⟩
    · rintro k x H1 H2 hk ⟨e1, e2, s2⟩ ⟨t, y, rfl, nt, rfl, hy⟩
      have ey : y = V.bl (decide (i = k)) := by
        have z := hy _ (SqL.of e2)
        rw [List.getElem?_map, List.getElem?_range hk] at z
        exact (Option.some.inj z).symm
      subst ey
      have st : Same H1 (upd H1 t (.tup [.int (k : Nat), V.bl (decide (i = k))])) := same_new nt
      refine ⟨t, _, rfl, SqT.of upd_same, rfl, _, _, rfl, _, _, rfl, rfl, rfl, _, rfl, _, rfl, ?_⟩
      have nd : H D = none := S0.free hD
      refine ite2 (fun c => ?_) (fun c => ?_)
      · refine ⟨_, rfl, _, st _ _ e1, szl (by rw [List.length_map]; exact Nat.le_trans (List.length_filter_le _ _) (by rw [List.length_range]; omega)), ?_, ?_, ?_⟩
        · rw [upd_same, List.range_succ, List.filter_append, List.map_append, List.filter_cons, if_pos c]
          rfl
        · rw [upd_ne np]
          exact st _ _ e2
        · exact fun b o h => by
            rw [upd_ne (ne_of_none h nd)]
            exact st _ _ (s2 _ _ h)
      · refine ⟨?_, st _ _ e2, s2.trans st⟩
        rw [List.range_succ, List.filter_append, List.map_append, List.filter_cons, if_neg c]
        simpa using st _ _ e1
    · rintro H1 ⟨e1, e2, s2⟩
      refine q D H1 (S0.free hD) ?_ s2
      rw [e1]
      exact congrArg (fun l => some (HO.lst l)) (sorts_eq i hi)
end

section
variable {P : Program} {w : World} {K : PySem.W.Frag} {mg : Str → Option Value} {base : Heap}
/-- e's field is the very v: it is shown alike -/
def spKept (T : Txt K mg) : Sp := fun vs H Q _ => ∃ (e dx : Addr) (i : Nat) (v : V) (d : PyData), vs = [.ref e, .int i, v] ∧ i < 7 ∧ ExAt H (cls T i) (fld i) v e dx ∧ Dp K H v d ∧ Shw d ∧ Q (.bl true) H
theorem ok_kept (T : Txt K mg) : FnG P w K mg base CX0 1 T.fIsKept T.fdIsKept ["_law_e", "_law_spot", "_law_value"] (spKept T) := by
  refine Fun.g T.FIsKept scIsKept (fun vs H Q E h => ?_) (fun cdv A outer s H vs Q E hg hr h => ?_)
  · obtain ⟨e, dx, i, v, d, rfl, _⟩ := h
    rfl
  · obtain ⟨e, dx, i, v, d, rfl, hi, he, hd, hs, q⟩ := h
    have hG : (A.deeper (envOfC "_law_is_kept" (defScope sIsKept) s.heap.objs.size T.fIsKept cdv)).guards = some [] := hg
    have hu64 := hr.units
    refine ⟨_, (pss_one (ps_ret (pe_cmpR op_eq (pe_callB (call_repr hG hu64) (by rfl) T.m_repr (by decide +kernel) (pa_cons (pe_ifExp (pt_cmpR op_lt (pv 1) pe_int (nomark _)) (pe_exf (pv 0)) (pe_exf (pv 0))) pa_nil)) (pe_callB (call_repr hG hu64) (by rfl) T.m_repr (by decide +kernel) (pa_cons (pv 2) pa_nil)) (nomark _)))), ?_⟩
    obtain ⟨gx1, gx2⟩ := gx7 T i hi
    walk_at "rd"
    refine ite2 (fun c => ?_) (fun c => ?_)
    · have hf : fld i = "at" := by
        have := of_decide_eq_true c
        match i, hi with
        | 0, _ => rfl
        | 1, _ => rfl
        | 2, _ => rfl
        | 3, _ => rfl
        | i + 4, _ => omega
      rw [hf] at gx2 he
      refine ⟨_, rfl, cls T i, e, dx, _, v, rfl, he, gx1, gx2, rfl, v, d, rfl, hd, hs, _, rfl, v, d, rfl, hd, hs, rfl, ?_⟩
      rw [decide_eq_true rfl]
      exact q
    · have hf : fld i = "word" := by
        have c' : ¬ ((i : Int) < 4) := fun z => c (decide_eq_true z)
        match i, hi with
        | 0, _ => exact absurd (by decide) c'
        | 1, _ => exact absurd (by decide) c'
        | 2, _ => exact absurd (by decide) c'
        | 3, _ => exact absurd (by decide) c'
        | 4, _ => rfl
        | 5, _ => rfl
        | 6, _ => rfl
        | i + 7, _ => omega
      rw [hf] at gx2 he
      refine ⟨_, rfl, cls T i, e, dx, _, v, rfl, he, gx1, gx2, rfl, v, d, rfl, hd, hs, _, rfl, v, d, rfl, hd, hs, rfl, ?_⟩
      rw [decide_eq_true rfl]
      exact q
theorem ok_law (T : Txt K mg) : FnG P w K mg base CX0 20 T.fLaw T.fdLaw ["_law_script"] (spLaw K) := by
  have GBox := ok_box (P := P) (w := w) (base := base) T
  have GAny := (ok_any (P := P) (w := w) (base := base) T 3)
  have GAny1 := (ok_any (P := P) (w := w) (base := base) T 1)
  have GMade := ok_made (P := P) (w := w) (base := base) T
  have GNamed := ok_named (P := P) (w := w) (base := base) T
  have GSorts := ok_sorts (P := P) (w := w) (base := base) T
  have GIsKept := ok_kept (P := P) (w := w) (base := base) T
  refine Fun.g T.FLaw scLaw (fun vs H Q E h => ?_) (fun cdv A outer s H vs Q E hg hr h => ?_)
  · obtain ⟨a, ns, rfl, _⟩ := h
    rfl
  · obtain ⟨a, ns, rfl, hs, hl, q⟩ := h
    have hG : (A.deeper (envOfC "law" (defScope sLaw) s.heap.objs.size T.fLaw cdv)).guards = some [] := hg
    have hu64 := hr.units
    refine ⟨_, (pss_cons (ps_for PassesOwn.never rfl (pi_range1 (by rfl) T.m_range (pa_cons (pe_callB (call_max2 rfl) (by rfl) T.m_max (by decide +kernel) (pa_cons pe_int (pa_cons (pe_callB (call_min2 rfl) (by rfl) T.m_min (by decide +kernel) (pa_cons pe_int (pa_cons (pe_callB call_len_seq (by rfl) T.m_len (by decide +kernel) (pa_cons (pv 0) pa_nil)) pa_nil))) pa_nil))) pa_nil)) (pg_name (i := 1) scLaw.nd rfl (.inl rfl))
    (pss_cons (ps_set (i := 2) scLaw.nd rfl (.inl rfl) (pe_call GBox (hr.mono (by decide)) (by rfl) T.gBox T.FBox.kp (bBox T) .nil pass0 (pa_cons (pv 0) (pa_cons (pv 1) pa_nil))))
    (pss_one (ps_for PassesOwn.never rfl (pi_range1 (by rfl) T.m_range (pa_cons pe_int pa_nil)) (pg_name (i := 3) scLaw.nd rfl (.inl rfl))
    (pss_cons (ps_set (i := 4) scLaw.nd rfl (.inl rfl) (pe_call GAny (hr.mono (by decide)) (by rfl) T.gAny T.FAny.kp (bAny T) .nil pass0 (pa_cons (pv 2) (pa_cons pe_int pa_nil))))
    (pss_cons (ps_set (i := 5) scLaw.nd rfl (.inl rfl) (pe_call GMade (hr.mono (by decide)) (by rfl) T.gMade T.FMade.kp (bMade T) .nil pass0 (pa_cons (pv 3) (pa_cons (pv 4) pa_nil))))
    (pss_cons (ps_if (PW.pt (pw_or (pt_cmpR (op_neD hu64) (pe_call GSorts (hr.mono (by decide)) (by rfl) T.gSorts T.FSorts.kp (bSorts T) .nil pass0 (pa_cons (pv 5) pa_nil)) (pe_lst (pa_cons (pv 3) pa_nil)) (nomark _)) (pw_or (pt_not (pt_val (pe_callB call_isX (by rfl) T.m_isinstance (by decide +kernel) (pa_cons (pv 5) (pa_cons (pe_glob (v := .ref T.CRainError) rfl T.gRainError rfl) pa_nil))))) (pw_or1 (pt_not (pt_val (pe_callB call_isX (by rfl) T.m_isinstance (by decide +kernel) (pa_cons (pv 5) (pa_cons (pe_bltn (v := .ty "ValueError") (by rfl) T.m_ValueError (by decide +kernel) rfl) pa_nil)))))))))
    (pss_one (ps_ret pe_bl))
    pss_nil)
    (pss_cons (ps_if (pt_cmpR op_eq (pv 3) pe_int (nomark _))
    (pss_one ps_continue)
    pss_nil)
    (pss_cons (ps_if (PW.pt (pw_or (pt_not (pt_val (pe_callG GIsKept hG (hr.mono (by decide)) (by rfl) T.gIsKept T.FIsKept.kp (bIsKept T) .nil pass0 (pa_cons (pv 5) (pa_cons (pv 3) (pa_cons (pv 4) pa_nil)))))) (pw_or1 (pt_not (pt_val (pe_callG GIsKept hG (hr.mono (by decide)) (by rfl) T.gIsKept T.FIsKept.kp (bIsKept T) .nil pass0 (pa_cons (pe_call GNamed (hr.mono (by decide)) (by rfl) T.gNamed T.FNamed.kp (bNamed T) .nil pass0 (pa_cons (pv 3) (pa_cons (pv 4) pa_nil))) (pa_cons (pv 3) (pa_cons (pv 4) pa_nil)))))))))
    (pss_one (ps_ret pe_bl))
    pss_nil)
    (pss_cons (ps_set (i := 6) scLaw.nd rfl (.inl rfl) (pe_lst (pa_cons (pe_call GAny (hr.mono (by decide)) (by rfl) T.gAny T.FAny.kp (bAny T) .nil pass0 (pa_cons (pv 2) (pa_cons pe_int pa_nil))) pa_nil)))
    (pss_cons (ps_set (i := 5) scLaw.nd rfl (.inl rfl) (pe_call GMade (hr.mono (by decide)) (by rfl) T.gMade T.FMade.kp (bMade T) .nil pass0 (pa_cons (pv 3) (pa_cons (pv 6) pa_nil))))
    (pss_cons (ps_if (pt_not (pt_val (pe_callG GIsKept hG (hr.mono (by decide)) (by rfl) T.gIsKept T.FIsKept.kp (bIsKept T) .nil pass0 (pa_cons (pv 5) (pa_cons (pv 3) (pa_cons (pv 6) pa_nil))))))
    (pss_one (ps_ret pe_bl))
    pss_nil)
    (pss_cons (ps_expr (pe_bm PySem.F.plainAttrs_list PySem.F.slot_list_append PySem.F.type_list_append mt_append (pv 6) (pa_cons pe_str pa_nil)))
    (pss_one (ps_if (pt_not (pt_val (pe_callG GIsKept hG (hr.mono (by decide)) (by rfl) T.gIsKept T.FIsKept.kp (bIsKept T) .nil pass0 (pa_cons (pv 5) (pa_cons (pv 3) (pa_cons (pv 6) pa_nil))))))
    (pss_one (ps_ret pe_bl))
    pss_nil)))))))))))))))
    (pss_one (ps_ret pe_bl))), ?_⟩
    have hsq := hs.sq
    have lm : (List.map V.int ns).length = ns.length := List.length_map ..
    have big : ∃ j : Int, (if (if ((List.map V.int ns).length : Int) < 5 then ((List.map V.int ns).length : Int) else 5) > 1 then (if ((List.map V.int ns).length : Int) < 5 then ((List.map V.int ns).length : Int) else 5) else 1) = j ∧ 1 ≤ j ∧ j ≤ 5 := by
      refine ⟨_, rfl, ?_, ?_⟩
      all_goals split <;> split at * <;> omega
    obtain ⟨j, ej, j1, j5⟩ := big
    walk_at "rd"
    rw [ej]
    refine for_range (lo := 0) (n := j.toNat) (fun i σ H' => (∃ x1 x2 x3 x4 x5 x6, σ = [some (.ref a), x1, x2, x3, x4, x5, x6]) ∧ Scr K H' a (ns.map V.int)) ?_ ?_ ?_
    · exact ⟨⟨none, none, none, none, none, none, rfl⟩, hs⟩
    · rintro i σ H1 hi ⟨⟨x1, x2, x3, x4, x5, x6, rfl⟩, s1⟩
      have sq1 := s1.sq
      walk_at "rd"
      refine ⟨a, ns, 0 + (i : Int), rfl, s1.sq, hl, by omega, by omega, fun b H2 nb hb k2 => ?_⟩
      have s2 := s1.same k2
      walk_at "rd"
      refine for_range (lo := 0) (n := 8) (fun i2 σ H' => (∃ x3 x4 x5 x6, σ = [some (.ref a), some (.int (0 + (i : Int))), some (.ref b), x3, x4, x5, x6]) ∧ Scr K H' a (ns.map V.int) ∧ Bx H' b) ?_ ?_ ?_
      · exact ⟨⟨_, _, _, _, rfl⟩, s2, hb⟩
      · rintro i2 σ H3 hi2 ⟨⟨x3, x4, x5, x6, rfl⟩, s3, b3⟩
        refine ⟨_, rfl, ?_⟩
        refine ⟨b, 3, rfl, by decide, b3, fun v d H4 hd hsb b4 k4 => ?_⟩
        have s4 := s3.kp b3 k4
        walk_at "rd"
        have h8 : (i2 : Nat) < 8 := hi2
        have ez : (0 : Int) + (i2 : Int) = (i2 : Int) := Int.zero_add _
        rw [ez]
        refine ⟨i2, v, rfl, h8, fun h7 e dx ne nd ned => ?_, fun h7 e ne => ?_⟩
        · have ea := exH_at (H := H4) (C := cls T i2) (f := fld i2) (v := v) ned
          have s45 : Same H4 (exH H4 (cls T i2) (fld i2) v e dx) := fun b o h => exH_old ne nd h
          generalize exH H4 (cls T i2) (fld i2) v e dx = H5 at ea s45
          walk_at "rd"
          refine ⟨e, i2, rfl, h8, ⟨some dx, ea.e, fun y hy => by cases hy; exact ⟨_, ea.d⟩⟩, fun p H6 np hp s56 => ?_⟩
          walk_at "rd"
          intro p2 np2
          have s67 := same_new (o := .lst [V.int i2]) np2
          refine ⟨.list [.int i2], .list [.int i2], .lst (SqL.of (s67 _ _ hp)) (.cons (.int _) .nil), .lst (SqL.of upd_same) (.cons (.int _) .nil), rfl, rfl, _, rfl, ?_⟩
          rw [show PyData.eqv (.list [.int i2]) (.list [.int i2]) = true from SeqAt.eqv_refl _ rfl]
          have s57 := s56.trans s67
          generalize upd H6 p2 (HO.lst [V.int ↑i2]) = H7 at s57
          have e7 := s57 _ _ ea.e
          have d7 := s57 _ _ ea.d
          have dd : ∀ y, some dx = some y → ∃ fs, H7 y = some (exd y fs) := fun y hy => by
            cases hy
            exact ⟨_, d7⟩
          refine ite2 (fun c => absurd c (by decide)) (fun _ => ?_)
          refine ⟨_, rfl, _, _, _, e, cls T i2, some dx, rfl, e7, dd, gx T i2 h8, .own _, isR T i2 h8, _, rfl, ?_⟩
          refine ite2 (fun c => absurd c (by decide)) (fun _ => ?_)
          refine ⟨_, rfl, _, _, _, e, cls T i2, some dx, rfl, e7, dd, gx T i2 h8, .ty _, isV T i2 h8, _, rfl, ?_⟩
          refine ite2 (fun c => absurd c (by decide)) (fun _ => ?_)
          walk_at "rd"
          refine ite2 (fun c => ?_) (fun _ => ?_)
          · exfalso
            have := V.int.inj (of_decide_eq_true c)
            omega
          have hw := hsb.w (by decide) (by decide)
          have hd7 : Dm (New H3) H7 v d := hd.kp (Kp.of (s45.trans s57))
          walk_at "rd"
          refine ⟨e, dx, i2, v, d, rfl, h7, ⟨e7, d7⟩, hd7.dp, hw, _, rfl, ?_⟩
          refine ite2 (fun c => absurd c (by decide)) (fun _ => ?_)
          walk_at "rd"
          refine ⟨i2, v, rfl, h7, fun e2 dx2 ne2 nd2 ned2 => ?_⟩
          have ea2 := exH_at (H := H7) (C := cls T i2) (f := fld i2) (v := v) ned2
          have s78 : Same H7 (exH H7 (cls T i2) (fld i2) v e2 dx2) := fun b o h => exH_old ne2 nd2 h
          generalize exH H7 (cls T i2) (fld i2) v e2 dx2 = H8 at ea2 s78
          walk_at "rd"
          refine ⟨e2, dx2, i2, v, d, rfl, h7, ea2, (hd7.kp (Kp.of s78)).dp, hw, _, rfl, ?_⟩
          refine ite2 (fun c => absurd c (by decide)) (fun _ => ?_)
          have s48 := s45.trans (s57.trans s78)
          have b8 := b4.same s48
          have s8 := s4.same s48
          walk_at "rd"
          refine ⟨b, 1, rfl, by decide, b8, fun v2 d2 H9 hd2 hsb2 b9 k9 => ?_⟩
          have s9 := s8.kp b8 k9
          walk_at "rd"
          intro p3 np3
          have s9a := same_new (o := .lst [v2]) np3
          walk_at "rd"
          refine ⟨i2, .ref p3, rfl, h8, fun _ e3 dx3 ne3 nd3 ned3 => ?_, fun h => absurd h (by omega)⟩
          have ea3 := exH_at (H := upd H9 p3 (.lst [v2])) (C := cls T i2) (f := fld i2) (v := .ref p3) ned3
          have sab : Same (upd H9 p3 (.lst [v2])) (exH (upd H9 p3 (.lst [v2])) (cls T i2) (fld i2) (.ref p3) e3 dx3) := fun b o h => exH_old ne3 nd3 h
          have hp3 : exH (upd H9 p3 (.lst [v2])) (cls T i2) (fld i2) (.ref p3) e3 dx3 p3 = some (.lst [v2]) := sab _ _ upd_same
          have n3e : e3 ≠ p3 := nw1 ne3 upd_same
          have n3d : dx3 ≠ p3 := nw1 nd3 upd_same
          have sbb := s9a.trans sab
          generalize exH (upd H9 p3 (.lst [v2])) (cls T i2) (fld i2) (.ref p3) e3 dx3 = Hb at ea3 sbb hp3
          have hdb : Dm (New H8) Hb v2 d2 := hd2.kp (Kp.of sbb)
          have hw2 : Shw (.list [d2]) := (sb_list (ds := [d2]) (p := 5) (l := anyLn 3) (fun x hx => by cases List.mem_singleton.mp hx; exact hsb2)).w (by decide) (show (anyLn 3 + 2) * 1 + 2 ≤ 16777216 by decide)
          walk_at "rd"
          refine ⟨e3, dx3, i2, .ref p3, .list [d2], rfl, h7, ea3, .lst (SqL.of hp3) (.cons hdb.dp .nil), hw2, _, rfl, ?_⟩
          refine ite2 (fun c => absurd c (by decide)) (fun _ => ?_)
          walk_at "rd"
          refine ⟨.inl ⟨rfl, _, SqL.of hp3⟩, p3, [v2], .str "more", rfl, rfl, hp3, szl (Nat.le_of_ble_eq_true rfl), ?_⟩
          have sfin : Same H9 (upd Hb p3 (.lst ([v2] ++ [.str "more"]))) := fun c o h => by
            rw [upd_ne (nw2 np3 h)]
            exact sbb c o h
          have hdc : Dm (New H8) (upd Hb p3 (.lst ([v2] ++ [.str "more"]))) v2 d2 := Dm.mv (fun c o h m => ⟨sfin c o h, m⟩) d2 v2 hd2
          have hw3 : Shw (.list [d2, .str "more"]) := (sb_list (ds := [d2, .str "more"]) (p := 5) (l := anyLn 3) (fun x hx => by
            simp only [List.mem_cons, List.not_mem_nil, or_false] at hx
            rcases hx with rfl | rfl
            · exact hsb2
            · exact ⟨rfl, rfl, by decide, by decide +kernel⟩)).w (by decide) (show (anyLn 3 + 2) * 2 + 2 ≤ 16777216 by decide)
          walk_at "rd"
          refine ⟨e3, dx3, i2, .ref p3, .list [d2, .str "more"], rfl, h7, ⟨by rw [upd_ne n3e]; exact ea3.e, by rw [upd_ne n3d]; exact ea3.d⟩, .lst (SqL.of upd_same) (.cons hdc.dp (.cons (.str _) .nil)), hw3, _, rfl, ?_⟩
          refine ite2 (fun c => absurd c (by decide)) (fun _ => ?_)
          exact ⟨⟨_, _, _, _, rfl⟩, s9.same sfin, b9.same sfin⟩
        · have ec : cls T i2 = T.CInvalidCommand := by rw [h7]; rfl
          have ea : upd H4 e (exo e T.CInvalidCommand none) e = some (exo e (cls T i2) none) := by rw [ec]; exact upd_same
          have s45 := same_new (o := exo e T.CInvalidCommand none) ne
          generalize upd H4 e (exo e T.CInvalidCommand none) = H5 at ea s45
          have dd : ∀ {H' : Hp} (y : Addr), (none : Option Addr) = some y → ∃ fs, H' y = some (exd y fs) := fun y hy => nomatch hy
          walk_at "rd"
          refine ⟨e, i2, rfl, h8, ⟨none, ea, dd⟩, fun p H6 np hp s56 => ?_⟩
          walk_at "rd"
          intro p2 np2
          have s67 := same_new (o := .lst [V.int i2]) np2
          refine ⟨.list [.int i2], .list [.int i2], .lst (SqL.of (s67 _ _ hp)) (.cons (.int _) .nil), .lst (SqL.of upd_same) (.cons (.int _) .nil), rfl, rfl, _, rfl, ?_⟩
          rw [show PyData.eqv (.list [.int i2]) (.list [.int i2]) = true from SeqAt.eqv_refl _ rfl]
          have s57 := s56.trans s67
          generalize upd H6 p2 (HO.lst [V.int ↑i2]) = H7 at s57
          have e7 := s57 _ _ ea
          refine ite2 (fun c => absurd c (by decide)) (fun _ => ?_)
          refine ⟨_, rfl, _, _, _, e, cls T i2, none, rfl, e7, dd, gx T i2 h8, .own _, isR T i2 h8, _, rfl, ?_⟩
          refine ite2 (fun c => absurd c (by decide)) (fun _ => ?_)
          refine ⟨_, rfl, _, _, _, e, cls T i2, none, rfl, e7, dd, gx T i2 h8, .ty _, isV T i2 h8, _, rfl, ?_⟩
          refine ite2 (fun c => absurd c (by decide)) (fun _ => ?_)
          walk_at "rd"
          refine ite2 (fun _ => ?_) (fun c => ?_)
          · exact ⟨⟨_, _, _, _, rfl⟩, s4.same (s45.trans s57), b4.same (s45.trans s57)⟩
          · exfalso
            refine c (decide_eq_true ?_)
            rw [h7]
            rfl
      · rintro σ H3 ⟨⟨x3, x4, x5, x6, rfl⟩, s3, b3⟩
        exact ⟨⟨_, _, _, _, _, _, rfl⟩, s3⟩
    · rintro σ H1 ⟨⟨x1, x2, x3, x4, x5, x6, rfl⟩, s1⟩
      exact q H1
end
theorem bnd_law {K : PySem.W.Frag} {f : Addr} {fd : FuncData} (F : Fun K "law" "law" sLaw f fd) (s : Shared) (v : Value) : BindsTo s fd ⟨[v], []⟩ [("_law_script", v)] := by
  obtain ⟨_, _, _, _, _, _, _, _, _, rfl, _, _⟩ := F.ex
  exact .of_eq rfl
theorem fin {l : PySem.W.OpenLaw} {w : World} {K : PySem.W.Frag} {h : Heap} {mg : Str → Option Value} {fa : Addr} (X : K.In h) (G : h.Ns mainGlobals mg) (hfa : mg "law" = some (.ref fa))
    {CRainError : Addr}
    {CInvalidCommand : Addr}
    {CRefused : Addr}
    {CInvalidSeen : Addr}
    {CInvalidRain : Addr}
    {CInvalidText : Addr}
    {CInvalidMeasure : Addr}
    {CInvalidRule : Addr}
    {CInvalidWeek : Addr}
    {fInvalidWeekInit : Addr} {odInvalidWeekInit anInvalidWeekInit : Option Addr} {slInvalidWeekInit : Array (Option Value)} {ocInvalidWeekInit kVInvalidWeekInit dcInvalidWeekInit pmInvalidWeekInit cdInvalidWeekInit ctInvalidWeekInit : Value}
    {fInvalidRuleInit : Addr} {odInvalidRuleInit anInvalidRuleInit : Option Addr} {slInvalidRuleInit : Array (Option Value)} {ocInvalidRuleInit kVInvalidRuleInit dcInvalidRuleInit pmInvalidRuleInit cdInvalidRuleInit ctInvalidRuleInit : Value}
    {fInvalidMeasureInit : Addr} {odInvalidMeasureInit anInvalidMeasureInit : Option Addr} {slInvalidMeasureInit : Array (Option Value)} {ocInvalidMeasureInit kVInvalidMeasureInit dcInvalidMeasureInit pmInvalidMeasureInit cdInvalidMeasureInit ctInvalidMeasureInit : Value}
    {fInvalidTextInit : Addr} {odInvalidTextInit anInvalidTextInit : Option Addr} {slInvalidTextInit : Array (Option Value)} {ocInvalidTextInit kVInvalidTextInit dcInvalidTextInit pmInvalidTextInit cdInvalidTextInit ctInvalidTextInit : Value}
    {fInvalidRainInit : Addr} {odInvalidRainInit anInvalidRainInit : Option Addr} {slInvalidRainInit : Array (Option Value)} {ocInvalidRainInit kVInvalidRainInit dcInvalidRainInit pmInvalidRainInit cdInvalidRainInit ctInvalidRainInit : Value}
    {fInvalidSeenInit : Addr} {odInvalidSeenInit anInvalidSeenInit : Option Addr} {slInvalidSeenInit : Array (Option Value)} {ocInvalidSeenInit kVInvalidSeenInit dcInvalidSeenInit pmInvalidSeenInit cdInvalidSeenInit ctInvalidSeenInit : Value}
    {fInvalidCommandInit : Addr} {odInvalidCommandInit anInvalidCommandInit : Option Addr} {slInvalidCommandInit : Array (Option Value)} {ocInvalidCommandInit kVInvalidCommandInit dcInvalidCommandInit pmInvalidCommandInit cdInvalidCommandInit ctInvalidCommandInit : Value}
    {fRefusedInit : Addr} {odRefusedInit anRefusedInit : Option Addr} {slRefusedInit : Array (Option Value)} {ocRefusedInit kVRefusedInit dcRefusedInit pmRefusedInit cdRefusedInit ctRefusedInit : Value}
    {fBox : Addr} {odBox anBox : Option Addr} {slBox : Array (Option Value)} {ocBox kVBox dcBox pmBox cdBox ctBox : Value}
    {fTake : Addr} {odTake anTake : Option Addr} {slTake : Array (Option Value)} {ocTake kVTake dcTake pmTake cdTake ctTake : Value}
    {fPick : Addr} {odPick anPick : Option Addr} {slPick : Array (Option Value)} {ocPick kVPick dcPick pmPick cdPick ctPick : Value}
    {fAny : Addr} {odAny anAny : Option Addr} {slAny : Array (Option Value)} {ocAny kVAny dcAny pmAny cdAny ctAny : Value}
    {fMade : Addr} {odMade anMade : Option Addr} {slMade : Array (Option Value)} {ocMade kVMade dcMade pmMade cdMade ctMade : Value}
    {fNamed : Addr} {odNamed anNamed : Option Addr} {slNamed : Array (Option Value)} {ocNamed kVNamed dcNamed pmNamed cdNamed ctNamed : Value}
    {fSorts : Addr} {odSorts anSorts : Option Addr} {slSorts : Array (Option Value)} {ocSorts kVSorts dcSorts pmSorts cdSorts ctSorts : Value}
    {fIsKept : Addr} {odIsKept anIsKept : Option Addr} {slIsKept : Array (Option Value)} {ocIsKept kVIsKept dcIsKept pmIsKept cdIsKept ctIsKept : Value}
    {fLaw : Addr} {odLaw anLaw : Option Addr} {slLaw : Array (Option Value)} {ocLaw kVLaw dcLaw pmLaw cdLaw ctLaw : Value}
    {nmInvalidWeek qInvalidWeek : Str} {NInvalidWeek : Addr} {bsInvalidWeek bmInvalidWeek : List Value} {snInvalidWeek : List Str} {subInvalidWeek : List Value} {abInvalidWeek : Bool} {colInvalidWeek : Option Bool} {ddInvalidWeek : Option Addr} {u0InvalidWeek u1InvalidWeek u2InvalidWeek u3InvalidWeek u5InvalidWeek : Option Value}
    {nmInvalidRule qInvalidRule : Str} {NInvalidRule : Addr} {bsInvalidRule bmInvalidRule : List Value} {snInvalidRule : List Str} {subInvalidRule : List Value} {abInvalidRule : Bool} {colInvalidRule : Option Bool} {ddInvalidRule : Option Addr} {u0InvalidRule u1InvalidRule u2InvalidRule u3InvalidRule u5InvalidRule : Option Value}
    {nmInvalidMeasure qInvalidMeasure : Str} {NInvalidMeasure : Addr} {bsInvalidMeasure bmInvalidMeasure : List Value} {snInvalidMeasure : List Str} {subInvalidMeasure : List Value} {abInvalidMeasure : Bool} {colInvalidMeasure : Option Bool} {ddInvalidMeasure : Option Addr} {u0InvalidMeasure u1InvalidMeasure u2InvalidMeasure u3InvalidMeasure u5InvalidMeasure : Option Value}
    {nmInvalidText qInvalidText : Str} {NInvalidText : Addr} {bsInvalidText bmInvalidText : List Value} {snInvalidText : List Str} {subInvalidText : List Value} {abInvalidText : Bool} {colInvalidText : Option Bool} {ddInvalidText : Option Addr} {u0InvalidText u1InvalidText u2InvalidText u3InvalidText u5InvalidText : Option Value}
    {nmInvalidRain qInvalidRain : Str} {NInvalidRain : Addr} {bsInvalidRain bmInvalidRain : List Value} {snInvalidRain : List Str} {subInvalidRain : List Value} {abInvalidRain : Bool} {colInvalidRain : Option Bool} {ddInvalidRain : Option Addr} {u0InvalidRain u1InvalidRain u2InvalidRain u3InvalidRain u5InvalidRain : Option Value}
    {nmInvalidSeen qInvalidSeen : Str} {NInvalidSeen : Addr} {bsInvalidSeen bmInvalidSeen : List Value} {snInvalidSeen : List Str} {subInvalidSeen : List Value} {abInvalidSeen : Bool} {colInvalidSeen : Option Bool} {ddInvalidSeen : Option Addr} {u0InvalidSeen u1InvalidSeen u2InvalidSeen u3InvalidSeen u5InvalidSeen : Option Value}
    {nmRefused qRefused : Str} {NRefused : Addr} {bsRefused bmRefused : List Value} {snRefused : List Str} {subRefused : List Value} {abRefused : Bool} {colRefused : Option Bool} {ddRefused : Option Addr} {u0Refused u1Refused u2Refused u3Refused u5Refused : Option Value}
    {nmInvalidCommand qInvalidCommand : Str} {NInvalidCommand : Addr} {bsInvalidCommand bmInvalidCommand : List Value} {snInvalidCommand : List Str} {subInvalidCommand : List Value} {abInvalidCommand : Bool} {colInvalidCommand : Option Bool} {ddInvalidCommand : Option Addr} {u0InvalidCommand u1InvalidCommand u2InvalidCommand u3InvalidCommand u5InvalidCommand : Option Value}
    {nmRainError qRainError : Str} {NRainError : Addr} {bsRainError bmRainError : List Value} {snRainError : List Str} {subRainError : List Value} {abRainError : Bool} {colRainError : Option Bool} {ddRainError : Option Addr} {u0RainError u1RainError u2RainError u3RainError u5RainError : Option Value}
    (AInvalidWeek : PySem.W.nsIn K mainGlobals "InvalidWeek" = some (some (.ref CInvalidWeek)))
    (xInvalidWeek : K.lookup CInvalidWeek = some (excClassObj nmInvalidWeek qInvalidWeek CInvalidWeek NInvalidWeek bsInvalidWeek bmInvalidWeek true snInvalidWeek subInvalidWeek abInvalidWeek colInvalidWeek ddInvalidWeek u0InvalidWeek u1InvalidWeek u2InvalidWeek u3InvalidWeek u5InvalidWeek "ValueError.__new__"))
    (saInvalidWeek : PySem.W.findIn K (.ref CInvalidWeek) "__setattr__" = some (some (.builtin "object.__setattr__")))
    (gaInvalidWeek : PySem.W.findIn K (.ref CInvalidWeek) "__getattribute__" = some (some (.builtin "BaseException.__getattribute__")))
    (ggInvalidWeek : PySem.W.findIn K (.ref CInvalidWeek) "__getattr__" = some none)
    (ccInvalidWeek : PySem.W.findIn K (.ref CInvalidWeek) "__class__" = some (some (.builtin "object.__class__")))
    (noInvalidWeek : PySem.W.findIn K (.ref CInvalidWeek) "word" = some none)
    (eCInvalidWeek : PySem.W.subIn K (.ref CInvalidWeek) (.type "BaseException") = some true)
    (tCInvalidWeek : PySem.W.typeIn K (.ref CInvalidWeek) = some (.type "type"))
    (kCInvalidWeek : PySem.W.keepIn K (.ref CInvalidWeek) = true)
    (hCInvalidWeek : PySem.W.hasDictIn K CInvalidWeek = true)
    (mCInvalidWeek : PySem.W.mroIn K CInvalidWeek (.type "object") = some true)
    (rvInvalidWeek : PySem.HandSPX.refsVE bmInvalidWeek = true)
    (AInvalidRule : PySem.W.nsIn K mainGlobals "InvalidRule" = some (some (.ref CInvalidRule)))
    (xInvalidRule : K.lookup CInvalidRule = some (excClassObj nmInvalidRule qInvalidRule CInvalidRule NInvalidRule bsInvalidRule bmInvalidRule true snInvalidRule subInvalidRule abInvalidRule colInvalidRule ddInvalidRule u0InvalidRule u1InvalidRule u2InvalidRule u3InvalidRule u5InvalidRule "ValueError.__new__"))
    (saInvalidRule : PySem.W.findIn K (.ref CInvalidRule) "__setattr__" = some (some (.builtin "object.__setattr__")))
    (gaInvalidRule : PySem.W.findIn K (.ref CInvalidRule) "__getattribute__" = some (some (.builtin "BaseException.__getattribute__")))
    (ggInvalidRule : PySem.W.findIn K (.ref CInvalidRule) "__getattr__" = some none)
    (ccInvalidRule : PySem.W.findIn K (.ref CInvalidRule) "__class__" = some (some (.builtin "object.__class__")))
    (noInvalidRule : PySem.W.findIn K (.ref CInvalidRule) "word" = some none)
    (eCInvalidRule : PySem.W.subIn K (.ref CInvalidRule) (.type "BaseException") = some true)
    (tCInvalidRule : PySem.W.typeIn K (.ref CInvalidRule) = some (.type "type"))
    (kCInvalidRule : PySem.W.keepIn K (.ref CInvalidRule) = true)
    (hCInvalidRule : PySem.W.hasDictIn K CInvalidRule = true)
    (mCInvalidRule : PySem.W.mroIn K CInvalidRule (.type "object") = some true)
    (rvInvalidRule : PySem.HandSPX.refsVE bmInvalidRule = true)
    (AInvalidMeasure : PySem.W.nsIn K mainGlobals "InvalidMeasure" = some (some (.ref CInvalidMeasure)))
    (xInvalidMeasure : K.lookup CInvalidMeasure = some (excClassObj nmInvalidMeasure qInvalidMeasure CInvalidMeasure NInvalidMeasure bsInvalidMeasure bmInvalidMeasure true snInvalidMeasure subInvalidMeasure abInvalidMeasure colInvalidMeasure ddInvalidMeasure u0InvalidMeasure u1InvalidMeasure u2InvalidMeasure u3InvalidMeasure u5InvalidMeasure "ValueError.__new__"))
    (saInvalidMeasure : PySem.W.findIn K (.ref CInvalidMeasure) "__setattr__" = some (some (.builtin "object.__setattr__")))
    (gaInvalidMeasure : PySem.W.findIn K (.ref CInvalidMeasure) "__getattribute__" = some (some (.builtin "BaseException.__getattribute__")))
    (ggInvalidMeasure : PySem.W.findIn K (.ref CInvalidMeasure) "__getattr__" = some none)
    (ccInvalidMeasure : PySem.W.findIn K (.ref CInvalidMeasure) "__class__" = some (some (.builtin "object.__class__")))
    (noInvalidMeasure : PySem.W.findIn K (.ref CInvalidMeasure) "word" = some none)
    (eCInvalidMeasure : PySem.W.subIn K (.ref CInvalidMeasure) (.type "BaseException") = some true)
    (tCInvalidMeasure : PySem.W.typeIn K (.ref CInvalidMeasure) = some (.type "type"))
    (kCInvalidMeasure : PySem.W.keepIn K (.ref CInvalidMeasure) = true)
    (hCInvalidMeasure : PySem.W.hasDictIn K CInvalidMeasure = true)
    (mCInvalidMeasure : PySem.W.mroIn K CInvalidMeasure (.type "object") = some true)
    (rvInvalidMeasure : PySem.HandSPX.refsVE bmInvalidMeasure = true)
    (AInvalidText : PySem.W.nsIn K mainGlobals "InvalidText" = some (some (.ref CInvalidText)))
    (xInvalidText : K.lookup CInvalidText = some (excClassObj nmInvalidText qInvalidText CInvalidText NInvalidText bsInvalidText bmInvalidText true snInvalidText subInvalidText abInvalidText colInvalidText ddInvalidText u0InvalidText u1InvalidText u2InvalidText u3InvalidText u5InvalidText "ValueError.__new__"))
    (saInvalidText : PySem.W.findIn K (.ref CInvalidText) "__setattr__" = some (some (.builtin "object.__setattr__")))
    (gaInvalidText : PySem.W.findIn K (.ref CInvalidText) "__getattribute__" = some (some (.builtin "BaseException.__getattribute__")))
    (ggInvalidText : PySem.W.findIn K (.ref CInvalidText) "__getattr__" = some none)
    (ccInvalidText : PySem.W.findIn K (.ref CInvalidText) "__class__" = some (some (.builtin "object.__class__")))
    (noInvalidText : PySem.W.findIn K (.ref CInvalidText) "at" = some none)
    (eCInvalidText : PySem.W.subIn K (.ref CInvalidText) (.type "BaseException") = some true)
    (tCInvalidText : PySem.W.typeIn K (.ref CInvalidText) = some (.type "type"))
    (kCInvalidText : PySem.W.keepIn K (.ref CInvalidText) = true)
    (hCInvalidText : PySem.W.hasDictIn K CInvalidText = true)
    (mCInvalidText : PySem.W.mroIn K CInvalidText (.type "object") = some true)
    (rvInvalidText : PySem.HandSPX.refsVE bmInvalidText = true)
    (AInvalidRain : PySem.W.nsIn K mainGlobals "InvalidRain" = some (some (.ref CInvalidRain)))
    (xInvalidRain : K.lookup CInvalidRain = some (excClassObj nmInvalidRain qInvalidRain CInvalidRain NInvalidRain bsInvalidRain bmInvalidRain true snInvalidRain subInvalidRain abInvalidRain colInvalidRain ddInvalidRain u0InvalidRain u1InvalidRain u2InvalidRain u3InvalidRain u5InvalidRain "ValueError.__new__"))
    (saInvalidRain : PySem.W.findIn K (.ref CInvalidRain) "__setattr__" = some (some (.builtin "object.__setattr__")))
    (gaInvalidRain : PySem.W.findIn K (.ref CInvalidRain) "__getattribute__" = some (some (.builtin "BaseException.__getattribute__")))
    (ggInvalidRain : PySem.W.findIn K (.ref CInvalidRain) "__getattr__" = some none)
    (ccInvalidRain : PySem.W.findIn K (.ref CInvalidRain) "__class__" = some (some (.builtin "object.__class__")))
    (noInvalidRain : PySem.W.findIn K (.ref CInvalidRain) "at" = some none)
    (eCInvalidRain : PySem.W.subIn K (.ref CInvalidRain) (.type "BaseException") = some true)
    (tCInvalidRain : PySem.W.typeIn K (.ref CInvalidRain) = some (.type "type"))
    (kCInvalidRain : PySem.W.keepIn K (.ref CInvalidRain) = true)
    (hCInvalidRain : PySem.W.hasDictIn K CInvalidRain = true)
    (mCInvalidRain : PySem.W.mroIn K CInvalidRain (.type "object") = some true)
    (rvInvalidRain : PySem.HandSPX.refsVE bmInvalidRain = true)
    (AInvalidSeen : PySem.W.nsIn K mainGlobals "InvalidSeen" = some (some (.ref CInvalidSeen)))
    (xInvalidSeen : K.lookup CInvalidSeen = some (excClassObj nmInvalidSeen qInvalidSeen CInvalidSeen NInvalidSeen bsInvalidSeen bmInvalidSeen true snInvalidSeen subInvalidSeen abInvalidSeen colInvalidSeen ddInvalidSeen u0InvalidSeen u1InvalidSeen u2InvalidSeen u3InvalidSeen u5InvalidSeen "ValueError.__new__"))
    (saInvalidSeen : PySem.W.findIn K (.ref CInvalidSeen) "__setattr__" = some (some (.builtin "object.__setattr__")))
    (gaInvalidSeen : PySem.W.findIn K (.ref CInvalidSeen) "__getattribute__" = some (some (.builtin "BaseException.__getattribute__")))
    (ggInvalidSeen : PySem.W.findIn K (.ref CInvalidSeen) "__getattr__" = some none)
    (ccInvalidSeen : PySem.W.findIn K (.ref CInvalidSeen) "__class__" = some (some (.builtin "object.__class__")))
    (noInvalidSeen : PySem.W.findIn K (.ref CInvalidSeen) "at" = some none)
    (eCInvalidSeen : PySem.W.subIn K (.ref CInvalidSeen) (.type "BaseException") = some true)
    (tCInvalidSeen : PySem.W.typeIn K (.ref CInvalidSeen) = some (.type "type"))
    (kCInvalidSeen : PySem.W.keepIn K (.ref CInvalidSeen) = true)
    (hCInvalidSeen : PySem.W.hasDictIn K CInvalidSeen = true)
    (mCInvalidSeen : PySem.W.mroIn K CInvalidSeen (.type "object") = some true)
    (rvInvalidSeen : PySem.HandSPX.refsVE bmInvalidSeen = true)
    (ARefused : PySem.W.nsIn K mainGlobals "Refused" = some (some (.ref CRefused)))
    (xRefused : K.lookup CRefused = some (excClassObj nmRefused qRefused CRefused NRefused bsRefused bmRefused true snRefused subRefused abRefused colRefused ddRefused u0Refused u1Refused u2Refused u3Refused u5Refused "ValueError.__new__"))
    (saRefused : PySem.W.findIn K (.ref CRefused) "__setattr__" = some (some (.builtin "object.__setattr__")))
    (gaRefused : PySem.W.findIn K (.ref CRefused) "__getattribute__" = some (some (.builtin "BaseException.__getattribute__")))
    (ggRefused : PySem.W.findIn K (.ref CRefused) "__getattr__" = some none)
    (ccRefused : PySem.W.findIn K (.ref CRefused) "__class__" = some (some (.builtin "object.__class__")))
    (noRefused : PySem.W.findIn K (.ref CRefused) "at" = some none)
    (eCRefused : PySem.W.subIn K (.ref CRefused) (.type "BaseException") = some true)
    (tCRefused : PySem.W.typeIn K (.ref CRefused) = some (.type "type"))
    (kCRefused : PySem.W.keepIn K (.ref CRefused) = true)
    (hCRefused : PySem.W.hasDictIn K CRefused = true)
    (mCRefused : PySem.W.mroIn K CRefused (.type "object") = some true)
    (rvRefused : PySem.HandSPX.refsVE bmRefused = true)
    (AInvalidCommand : PySem.W.nsIn K mainGlobals "InvalidCommand" = some (some (.ref CInvalidCommand)))
    (xInvalidCommand : K.lookup CInvalidCommand = some (excClassObj nmInvalidCommand qInvalidCommand CInvalidCommand NInvalidCommand bsInvalidCommand bmInvalidCommand true snInvalidCommand subInvalidCommand abInvalidCommand colInvalidCommand ddInvalidCommand u0InvalidCommand u1InvalidCommand u2InvalidCommand u3InvalidCommand u5InvalidCommand "ValueError.__new__"))
    (saInvalidCommand : PySem.W.findIn K (.ref CInvalidCommand) "__setattr__" = some (some (.builtin "object.__setattr__")))
    (gaInvalidCommand : PySem.W.findIn K (.ref CInvalidCommand) "__getattribute__" = some (some (.builtin "BaseException.__getattribute__")))
    (ggInvalidCommand : PySem.W.findIn K (.ref CInvalidCommand) "__getattr__" = some none)
    (ccInvalidCommand : PySem.W.findIn K (.ref CInvalidCommand) "__class__" = some (some (.builtin "object.__class__")))
    (eCInvalidCommand : PySem.W.subIn K (.ref CInvalidCommand) (.type "BaseException") = some true)
    (tCInvalidCommand : PySem.W.typeIn K (.ref CInvalidCommand) = some (.type "type"))
    (kCInvalidCommand : PySem.W.keepIn K (.ref CInvalidCommand) = true)
    (hCInvalidCommand : PySem.W.hasDictIn K CInvalidCommand = true)
    (mCInvalidCommand : PySem.W.mroIn K CInvalidCommand (.type "object") = some true)
    (rvInvalidCommand : PySem.HandSPX.refsVE bmInvalidCommand = true)
    (ARainError : PySem.W.nsIn K mainGlobals "RainError" = some (some (.ref CRainError)))
    (xRainError : K.lookup CRainError = some (excClassObj nmRainError qRainError CRainError NRainError bsRainError bmRainError true snRainError subRainError abRainError colRainError ddRainError u0RainError u1RainError u2RainError u3RainError u5RainError "ValueError.__new__"))
    (saRainError : PySem.W.findIn K (.ref CRainError) "__setattr__" = some (some (.builtin "object.__setattr__")))
    (gaRainError : PySem.W.findIn K (.ref CRainError) "__getattribute__" = some (some (.builtin "BaseException.__getattribute__")))
    (ggRainError : PySem.W.findIn K (.ref CRainError) "__getattr__" = some none)
    (ccRainError : PySem.W.findIn K (.ref CRainError) "__class__" = some (some (.builtin "object.__class__")))
    (eCRainError : PySem.W.subIn K (.ref CRainError) (.type "BaseException") = some true)
    (tCRainError : PySem.W.typeIn K (.ref CRainError) = some (.type "type"))
    (kCRainError : PySem.W.keepIn K (.ref CRainError) = true)
    (hCRainError : PySem.W.hasDictIn K CRainError = true)
    (mCRainError : PySem.W.mroIn K CRainError (.type "object") = some true)
    (rvRainError : PySem.HandSPX.refsVE bmRainError = true)
    (zsp : PySem.W.specialIn K (.builtin "object.__class__") "__get__" = some (some (.builtin "getset_descriptor.__get__")))
    (ztk : PySem.W.takesIn K (.builtin "object.__class__") = some true)
    (yisRainError_RainError : PySem.W.subIn K (.ref CRainError) (.ref CRainError) = some true)
    (yisInvalidWeek_InvalidWeek : PySem.W.subIn K (.ref CInvalidWeek) (.ref CInvalidWeek) = some true)
    (yisInvalidWeek_InvalidRule : PySem.W.subIn K (.ref CInvalidWeek) (.ref CInvalidRule) = some false)
    (yisInvalidWeek_InvalidMeasure : PySem.W.subIn K (.ref CInvalidWeek) (.ref CInvalidMeasure) = some false)
    (yisInvalidWeek_InvalidText : PySem.W.subIn K (.ref CInvalidWeek) (.ref CInvalidText) = some false)
    (yisInvalidWeek_InvalidRain : PySem.W.subIn K (.ref CInvalidWeek) (.ref CInvalidRain) = some false)
    (yisInvalidWeek_InvalidSeen : PySem.W.subIn K (.ref CInvalidWeek) (.ref CInvalidSeen) = some false)
    (yisInvalidWeek_Refused : PySem.W.subIn K (.ref CInvalidWeek) (.ref CRefused) = some false)
    (yisInvalidWeek_InvalidCommand : PySem.W.subIn K (.ref CInvalidWeek) (.ref CInvalidCommand) = some false)
    (yisInvalidWeek_RainError : PySem.W.subIn K (.ref CInvalidWeek) (.ref CRainError) = some true)
    (yisInvalidWeek_V : PySem.W.subIn K (.ref CInvalidWeek) (.type "ValueError") = some true)
    (yisInvalidRule_InvalidWeek : PySem.W.subIn K (.ref CInvalidRule) (.ref CInvalidWeek) = some false)
    (yisInvalidRule_InvalidRule : PySem.W.subIn K (.ref CInvalidRule) (.ref CInvalidRule) = some true)
    (yisInvalidRule_InvalidMeasure : PySem.W.subIn K (.ref CInvalidRule) (.ref CInvalidMeasure) = some false)
    (yisInvalidRule_InvalidText : PySem.W.subIn K (.ref CInvalidRule) (.ref CInvalidText) = some false)
    (yisInvalidRule_InvalidRain : PySem.W.subIn K (.ref CInvalidRule) (.ref CInvalidRain) = some false)
    (yisInvalidRule_InvalidSeen : PySem.W.subIn K (.ref CInvalidRule) (.ref CInvalidSeen) = some false)
    (yisInvalidRule_Refused : PySem.W.subIn K (.ref CInvalidRule) (.ref CRefused) = some false)
    (yisInvalidRule_InvalidCommand : PySem.W.subIn K (.ref CInvalidRule) (.ref CInvalidCommand) = some false)
    (yisInvalidRule_RainError : PySem.W.subIn K (.ref CInvalidRule) (.ref CRainError) = some true)
    (yisInvalidRule_V : PySem.W.subIn K (.ref CInvalidRule) (.type "ValueError") = some true)
    (yisInvalidMeasure_InvalidWeek : PySem.W.subIn K (.ref CInvalidMeasure) (.ref CInvalidWeek) = some false)
    (yisInvalidMeasure_InvalidRule : PySem.W.subIn K (.ref CInvalidMeasure) (.ref CInvalidRule) = some false)
    (yisInvalidMeasure_InvalidMeasure : PySem.W.subIn K (.ref CInvalidMeasure) (.ref CInvalidMeasure) = some true)
    (yisInvalidMeasure_InvalidText : PySem.W.subIn K (.ref CInvalidMeasure) (.ref CInvalidText) = some false)
    (yisInvalidMeasure_InvalidRain : PySem.W.subIn K (.ref CInvalidMeasure) (.ref CInvalidRain) = some false)
    (yisInvalidMeasure_InvalidSeen : PySem.W.subIn K (.ref CInvalidMeasure) (.ref CInvalidSeen) = some false)
    (yisInvalidMeasure_Refused : PySem.W.subIn K (.ref CInvalidMeasure) (.ref CRefused) = some false)
    (yisInvalidMeasure_InvalidCommand : PySem.W.subIn K (.ref CInvalidMeasure) (.ref CInvalidCommand) = some false)
    (yisInvalidMeasure_RainError : PySem.W.subIn K (.ref CInvalidMeasure) (.ref CRainError) = some true)
    (yisInvalidMeasure_V : PySem.W.subIn K (.ref CInvalidMeasure) (.type "ValueError") = some true)
    (yisInvalidText_InvalidWeek : PySem.W.subIn K (.ref CInvalidText) (.ref CInvalidWeek) = some false)
    (yisInvalidText_InvalidRule : PySem.W.subIn K (.ref CInvalidText) (.ref CInvalidRule) = some false)
    (yisInvalidText_InvalidMeasure : PySem.W.subIn K (.ref CInvalidText) (.ref CInvalidMeasure) = some false)
    (yisInvalidText_InvalidText : PySem.W.subIn K (.ref CInvalidText) (.ref CInvalidText) = some true)
    (yisInvalidText_InvalidRain : PySem.W.subIn K (.ref CInvalidText) (.ref CInvalidRain) = some false)
    (yisInvalidText_InvalidSeen : PySem.W.subIn K (.ref CInvalidText) (.ref CInvalidSeen) = some false)
    (yisInvalidText_Refused : PySem.W.subIn K (.ref CInvalidText) (.ref CRefused) = some false)
    (yisInvalidText_InvalidCommand : PySem.W.subIn K (.ref CInvalidText) (.ref CInvalidCommand) = some false)
    (yisInvalidText_RainError : PySem.W.subIn K (.ref CInvalidText) (.ref CRainError) = some true)
    (yisInvalidText_V : PySem.W.subIn K (.ref CInvalidText) (.type "ValueError") = some true)
    (yisInvalidRain_InvalidWeek : PySem.W.subIn K (.ref CInvalidRain) (.ref CInvalidWeek) = some false)
    (yisInvalidRain_InvalidRule : PySem.W.subIn K (.ref CInvalidRain) (.ref CInvalidRule) = some false)
    (yisInvalidRain_InvalidMeasure : PySem.W.subIn K (.ref CInvalidRain) (.ref CInvalidMeasure) = some false)
    (yisInvalidRain_InvalidText : PySem.W.subIn K (.ref CInvalidRain) (.ref CInvalidText) = some false)
    (yisInvalidRain_InvalidRain : PySem.W.subIn K (.ref CInvalidRain) (.ref CInvalidRain) = some true)
    (yisInvalidRain_InvalidSeen : PySem.W.subIn K (.ref CInvalidRain) (.ref CInvalidSeen) = some false)
    (yisInvalidRain_Refused : PySem.W.subIn K (.ref CInvalidRain) (.ref CRefused) = some false)
    (yisInvalidRain_InvalidCommand : PySem.W.subIn K (.ref CInvalidRain) (.ref CInvalidCommand) = some false)
    (yisInvalidRain_RainError : PySem.W.subIn K (.ref CInvalidRain) (.ref CRainError) = some true)
    (yisInvalidRain_V : PySem.W.subIn K (.ref CInvalidRain) (.type "ValueError") = some true)
    (yisInvalidSeen_InvalidWeek : PySem.W.subIn K (.ref CInvalidSeen) (.ref CInvalidWeek) = some false)
    (yisInvalidSeen_InvalidRule : PySem.W.subIn K (.ref CInvalidSeen) (.ref CInvalidRule) = some false)
    (yisInvalidSeen_InvalidMeasure : PySem.W.subIn K (.ref CInvalidSeen) (.ref CInvalidMeasure) = some false)
    (yisInvalidSeen_InvalidText : PySem.W.subIn K (.ref CInvalidSeen) (.ref CInvalidText) = some false)
    (yisInvalidSeen_InvalidRain : PySem.W.subIn K (.ref CInvalidSeen) (.ref CInvalidRain) = some false)
    (yisInvalidSeen_InvalidSeen : PySem.W.subIn K (.ref CInvalidSeen) (.ref CInvalidSeen) = some true)
    (yisInvalidSeen_Refused : PySem.W.subIn K (.ref CInvalidSeen) (.ref CRefused) = some false)
    (yisInvalidSeen_InvalidCommand : PySem.W.subIn K (.ref CInvalidSeen) (.ref CInvalidCommand) = some false)
    (yisInvalidSeen_RainError : PySem.W.subIn K (.ref CInvalidSeen) (.ref CRainError) = some true)
    (yisInvalidSeen_V : PySem.W.subIn K (.ref CInvalidSeen) (.type "ValueError") = some true)
    (yisRefused_InvalidWeek : PySem.W.subIn K (.ref CRefused) (.ref CInvalidWeek) = some false)
    (yisRefused_InvalidRule : PySem.W.subIn K (.ref CRefused) (.ref CInvalidRule) = some false)
    (yisRefused_InvalidMeasure : PySem.W.subIn K (.ref CRefused) (.ref CInvalidMeasure) = some false)
    (yisRefused_InvalidText : PySem.W.subIn K (.ref CRefused) (.ref CInvalidText) = some false)
    (yisRefused_InvalidRain : PySem.W.subIn K (.ref CRefused) (.ref CInvalidRain) = some false)
    (yisRefused_InvalidSeen : PySem.W.subIn K (.ref CRefused) (.ref CInvalidSeen) = some false)
    (yisRefused_Refused : PySem.W.subIn K (.ref CRefused) (.ref CRefused) = some true)
    (yisRefused_InvalidCommand : PySem.W.subIn K (.ref CRefused) (.ref CInvalidCommand) = some false)
    (yisRefused_RainError : PySem.W.subIn K (.ref CRefused) (.ref CRainError) = some true)
    (yisRefused_V : PySem.W.subIn K (.ref CRefused) (.type "ValueError") = some true)
    (yisInvalidCommand_InvalidWeek : PySem.W.subIn K (.ref CInvalidCommand) (.ref CInvalidWeek) = some false)
    (yisInvalidCommand_InvalidRule : PySem.W.subIn K (.ref CInvalidCommand) (.ref CInvalidRule) = some false)
    (yisInvalidCommand_InvalidMeasure : PySem.W.subIn K (.ref CInvalidCommand) (.ref CInvalidMeasure) = some false)
    (yisInvalidCommand_InvalidText : PySem.W.subIn K (.ref CInvalidCommand) (.ref CInvalidText) = some false)
    (yisInvalidCommand_InvalidRain : PySem.W.subIn K (.ref CInvalidCommand) (.ref CInvalidRain) = some false)
    (yisInvalidCommand_InvalidSeen : PySem.W.subIn K (.ref CInvalidCommand) (.ref CInvalidSeen) = some false)
    (yisInvalidCommand_Refused : PySem.W.subIn K (.ref CInvalidCommand) (.ref CRefused) = some false)
    (yisInvalidCommand_InvalidCommand : PySem.W.subIn K (.ref CInvalidCommand) (.ref CInvalidCommand) = some true)
    (yisInvalidCommand_RainError : PySem.W.subIn K (.ref CInvalidCommand) (.ref CRainError) = some true)
    (yisInvalidCommand_V : PySem.W.subIn K (.ref CInvalidCommand) (.type "ValueError") = some true)
    (aInvalidWeekInit : PySem.W.findIn K (.ref CInvalidWeek) "__init__" = some (some (.ref fInvalidWeekInit)))
    (iInvalidWeekInit : PySem.W.isFn K (.ref fInvalidWeekInit) = true)
    (lInvalidWeekInit : K.lookup fInvalidWeekInit = some ⟨ocInvalidWeekInit, odInvalidWeekInit, .func (PySem.W.fnOf "__init__" "InvalidWeek.__init__" (defArgs sInvalidWeekInit) (defBody sInvalidWeekInit) (defScope sInvalidWeekInit) .none kVInvalidWeekInit dcInvalidWeekInit pmInvalidWeekInit anInvalidWeekInit cdInvalidWeekInit ctInvalidWeekInit), slInvalidWeekInit⟩)
    (cInvalidWeekInit : PySem.W.codeIn K cdInvalidWeekInit "InvalidWeek.__init__" = true)
    (kInvalidWeekInit : PySem.W.keepIn K (.ref fInvalidWeekInit) = true)
    (aInvalidRuleInit : PySem.W.findIn K (.ref CInvalidRule) "__init__" = some (some (.ref fInvalidRuleInit)))
    (iInvalidRuleInit : PySem.W.isFn K (.ref fInvalidRuleInit) = true)
    (lInvalidRuleInit : K.lookup fInvalidRuleInit = some ⟨ocInvalidRuleInit, odInvalidRuleInit, .func (PySem.W.fnOf "__init__" "InvalidRule.__init__" (defArgs sInvalidRuleInit) (defBody sInvalidRuleInit) (defScope sInvalidRuleInit) .none kVInvalidRuleInit dcInvalidRuleInit pmInvalidRuleInit anInvalidRuleInit cdInvalidRuleInit ctInvalidRuleInit), slInvalidRuleInit⟩)
    (cInvalidRuleInit : PySem.W.codeIn K cdInvalidRuleInit "InvalidRule.__init__" = true)
    (kInvalidRuleInit : PySem.W.keepIn K (.ref fInvalidRuleInit) = true)
    (aInvalidMeasureInit : PySem.W.findIn K (.ref CInvalidMeasure) "__init__" = some (some (.ref fInvalidMeasureInit)))
    (iInvalidMeasureInit : PySem.W.isFn K (.ref fInvalidMeasureInit) = true)
    (lInvalidMeasureInit : K.lookup fInvalidMeasureInit = some ⟨ocInvalidMeasureInit, odInvalidMeasureInit, .func (PySem.W.fnOf "__init__" "InvalidMeasure.__init__" (defArgs sInvalidMeasureInit) (defBody sInvalidMeasureInit) (defScope sInvalidMeasureInit) .none kVInvalidMeasureInit dcInvalidMeasureInit pmInvalidMeasureInit anInvalidMeasureInit cdInvalidMeasureInit ctInvalidMeasureInit), slInvalidMeasureInit⟩)
    (cInvalidMeasureInit : PySem.W.codeIn K cdInvalidMeasureInit "InvalidMeasure.__init__" = true)
    (kInvalidMeasureInit : PySem.W.keepIn K (.ref fInvalidMeasureInit) = true)
    (aInvalidTextInit : PySem.W.findIn K (.ref CInvalidText) "__init__" = some (some (.ref fInvalidTextInit)))
    (iInvalidTextInit : PySem.W.isFn K (.ref fInvalidTextInit) = true)
    (lInvalidTextInit : K.lookup fInvalidTextInit = some ⟨ocInvalidTextInit, odInvalidTextInit, .func (PySem.W.fnOf "__init__" "InvalidText.__init__" (defArgs sInvalidTextInit) (defBody sInvalidTextInit) (defScope sInvalidTextInit) .none kVInvalidTextInit dcInvalidTextInit pmInvalidTextInit anInvalidTextInit cdInvalidTextInit ctInvalidTextInit), slInvalidTextInit⟩)
    (cInvalidTextInit : PySem.W.codeIn K cdInvalidTextInit "InvalidText.__init__" = true)
    (kInvalidTextInit : PySem.W.keepIn K (.ref fInvalidTextInit) = true)
    (aInvalidRainInit : PySem.W.findIn K (.ref CInvalidRain) "__init__" = some (some (.ref fInvalidRainInit)))
    (iInvalidRainInit : PySem.W.isFn K (.ref fInvalidRainInit) = true)
    (lInvalidRainInit : K.lookup fInvalidRainInit = some ⟨ocInvalidRainInit, odInvalidRainInit, .func (PySem.W.fnOf "__init__" "InvalidRain.__init__" (defArgs sInvalidRainInit) (defBody sInvalidRainInit) (defScope sInvalidRainInit) .none kVInvalidRainInit dcInvalidRainInit pmInvalidRainInit anInvalidRainInit cdInvalidRainInit ctInvalidRainInit), slInvalidRainInit⟩)
    (cInvalidRainInit : PySem.W.codeIn K cdInvalidRainInit "InvalidRain.__init__" = true)
    (kInvalidRainInit : PySem.W.keepIn K (.ref fInvalidRainInit) = true)
    (aInvalidSeenInit : PySem.W.findIn K (.ref CInvalidSeen) "__init__" = some (some (.ref fInvalidSeenInit)))
    (iInvalidSeenInit : PySem.W.isFn K (.ref fInvalidSeenInit) = true)
    (lInvalidSeenInit : K.lookup fInvalidSeenInit = some ⟨ocInvalidSeenInit, odInvalidSeenInit, .func (PySem.W.fnOf "__init__" "InvalidSeen.__init__" (defArgs sInvalidSeenInit) (defBody sInvalidSeenInit) (defScope sInvalidSeenInit) .none kVInvalidSeenInit dcInvalidSeenInit pmInvalidSeenInit anInvalidSeenInit cdInvalidSeenInit ctInvalidSeenInit), slInvalidSeenInit⟩)
    (cInvalidSeenInit : PySem.W.codeIn K cdInvalidSeenInit "InvalidSeen.__init__" = true)
    (kInvalidSeenInit : PySem.W.keepIn K (.ref fInvalidSeenInit) = true)
    (aInvalidCommandInit : PySem.W.findIn K (.ref CInvalidCommand) "__init__" = some (some (.ref fInvalidCommandInit)))
    (iInvalidCommandInit : PySem.W.isFn K (.ref fInvalidCommandInit) = true)
    (lInvalidCommandInit : K.lookup fInvalidCommandInit = some ⟨ocInvalidCommandInit, odInvalidCommandInit, .func (PySem.W.fnOf "__init__" "InvalidCommand.__init__" (defArgs sInvalidCommandInit) (defBody sInvalidCommandInit) (defScope sInvalidCommandInit) .none kVInvalidCommandInit dcInvalidCommandInit pmInvalidCommandInit anInvalidCommandInit cdInvalidCommandInit ctInvalidCommandInit), slInvalidCommandInit⟩)
    (cInvalidCommandInit : PySem.W.codeIn K cdInvalidCommandInit "InvalidCommand.__init__" = true)
    (kInvalidCommandInit : PySem.W.keepIn K (.ref fInvalidCommandInit) = true)
    (aRefusedInit : PySem.W.findIn K (.ref CRefused) "__init__" = some (some (.ref fRefusedInit)))
    (iRefusedInit : PySem.W.isFn K (.ref fRefusedInit) = true)
    (lRefusedInit : K.lookup fRefusedInit = some ⟨ocRefusedInit, odRefusedInit, .func (PySem.W.fnOf "__init__" "Refused.__init__" (defArgs sRefusedInit) (defBody sRefusedInit) (defScope sRefusedInit) .none kVRefusedInit dcRefusedInit pmRefusedInit anRefusedInit cdRefusedInit ctRefusedInit), slRefusedInit⟩)
    (cRefusedInit : PySem.W.codeIn K cdRefusedInit "Refused.__init__" = true)
    (kRefusedInit : PySem.W.keepIn K (.ref fRefusedInit) = true)
    (aBox : PySem.W.nsIn K mainGlobals "_law_box" = some (some (.ref fBox)))
    (lBox : K.lookup fBox = some ⟨ocBox, odBox, .func (PySem.W.fnOf "_law_box" "_law_box" (defArgs sBox) (defBody sBox) (defScope sBox) .none kVBox dcBox pmBox anBox cdBox ctBox), slBox⟩)
    (cBox : PySem.W.codeIn K cdBox "_law_box" = true)
    (kBox : PySem.W.keepIn K (.ref fBox) = true)
    (aTake : PySem.W.nsIn K mainGlobals "_law_take" = some (some (.ref fTake)))
    (lTake : K.lookup fTake = some ⟨ocTake, odTake, .func (PySem.W.fnOf "_law_take" "_law_take" (defArgs sTake) (defBody sTake) (defScope sTake) .none kVTake dcTake pmTake anTake cdTake ctTake), slTake⟩)
    (cTake : PySem.W.codeIn K cdTake "_law_take" = true)
    (kTake : PySem.W.keepIn K (.ref fTake) = true)
    (aPick : PySem.W.nsIn K mainGlobals "_law_pick" = some (some (.ref fPick)))
    (lPick : K.lookup fPick = some ⟨ocPick, odPick, .func (PySem.W.fnOf "_law_pick" "_law_pick" (defArgs sPick) (defBody sPick) (defScope sPick) .none kVPick dcPick pmPick anPick cdPick ctPick), slPick⟩)
    (cPick : PySem.W.codeIn K cdPick "_law_pick" = true)
    (kPick : PySem.W.keepIn K (.ref fPick) = true)
    (aAny : PySem.W.nsIn K mainGlobals "_law_any" = some (some (.ref fAny)))
    (lAny : K.lookup fAny = some ⟨ocAny, odAny, .func (PySem.W.fnOf "_law_any" "_law_any" (defArgs sAny) (defBody sAny) (defScope sAny) .none kVAny dcAny pmAny anAny cdAny ctAny), slAny⟩)
    (cAny : PySem.W.codeIn K cdAny "_law_any" = true)
    (kAny : PySem.W.keepIn K (.ref fAny) = true)
    (aMade : PySem.W.nsIn K mainGlobals "_law_made" = some (some (.ref fMade)))
    (lMade : K.lookup fMade = some ⟨ocMade, odMade, .func (PySem.W.fnOf "_law_made" "_law_made" (defArgs sMade) (defBody sMade) (defScope sMade) .none kVMade dcMade pmMade anMade cdMade ctMade), slMade⟩)
    (cMade : PySem.W.codeIn K cdMade "_law_made" = true)
    (kMade : PySem.W.keepIn K (.ref fMade) = true)
    (aNamed : PySem.W.nsIn K mainGlobals "_law_named" = some (some (.ref fNamed)))
    (lNamed : K.lookup fNamed = some ⟨ocNamed, odNamed, .func (PySem.W.fnOf "_law_named" "_law_named" (defArgs sNamed) (defBody sNamed) (defScope sNamed) .none kVNamed dcNamed pmNamed anNamed cdNamed ctNamed), slNamed⟩)
    (cNamed : PySem.W.codeIn K cdNamed "_law_named" = true)
    (kNamed : PySem.W.keepIn K (.ref fNamed) = true)
    (aSorts : PySem.W.nsIn K mainGlobals "_law_sorts" = some (some (.ref fSorts)))
    (lSorts : K.lookup fSorts = some ⟨ocSorts, odSorts, .func (PySem.W.fnOf "_law_sorts" "_law_sorts" (defArgs sSorts) (defBody sSorts) (defScope sSorts) .none kVSorts dcSorts pmSorts anSorts cdSorts ctSorts), slSorts⟩)
    (cSorts : PySem.W.codeIn K cdSorts "_law_sorts" = true)
    (kSorts : PySem.W.keepIn K (.ref fSorts) = true)
    (aIsKept : PySem.W.nsIn K mainGlobals "_law_is_kept" = some (some (.ref fIsKept)))
    (lIsKept : K.lookup fIsKept = some ⟨ocIsKept, odIsKept, .func (PySem.W.fnOf "_law_is_kept" "_law_is_kept" (defArgs sIsKept) (defBody sIsKept) (defScope sIsKept) .none kVIsKept dcIsKept pmIsKept anIsKept cdIsKept ctIsKept), slIsKept⟩)
    (cIsKept : PySem.W.codeIn K cdIsKept "_law_is_kept" = true)
    (kIsKept : PySem.W.keepIn K (.ref fIsKept) = true)
    (aLaw : PySem.W.nsIn K mainGlobals "law" = some (some (.ref fLaw)))
    (lLaw : K.lookup fLaw = some ⟨ocLaw, odLaw, .func (PySem.W.fnOf "law" "law" (defArgs sLaw) (defBody sLaw) (defScope sLaw) .none kVLaw dcLaw pmLaw anLaw cdLaw ctLaw), slLaw⟩)
    (cLaw : PySem.W.codeIn K cdLaw "law" = true)
    (kLaw : PySem.W.keepIn K (.ref fLaw) = true)
    (tfInvalidWeek : PySem.W.typeIn K (.ref fInvalidWeekInit) = some (.type "function"))
    (tfInvalidRule : PySem.W.typeIn K (.ref fInvalidRuleInit) = some (.type "function"))
    (tfInvalidMeasure : PySem.W.typeIn K (.ref fInvalidMeasureInit) = some (.type "function"))
    (tfInvalidText : PySem.W.typeIn K (.ref fInvalidTextInit) = some (.type "function"))
    (tfInvalidRain : PySem.W.typeIn K (.ref fInvalidRainInit) = some (.type "function"))
    (tfInvalidSeen : PySem.W.typeIn K (.ref fInvalidSeenInit) = some (.type "function"))
    (tfRefused : PySem.W.typeIn K (.ref fRefusedInit) = some (.type "function"))
    (tfInvalidCommand : PySem.W.typeIn K (.ref fInvalidCommandInit) = some (.type "function"))
    (zlen : PySem.W.nsIn K mainGlobals "len" = some none)
    (zabs : PySem.W.nsIn K mainGlobals "abs" = some none)
    (zint : PySem.W.nsIn K mainGlobals "int" = some none)
    (zrange : PySem.W.nsIn K mainGlobals "range" = some none)
    (zmax : PySem.W.nsIn K mainGlobals "max" = some none)
    (zmin : PySem.W.nsIn K mainGlobals "min" = some none)
    (ztuple : PySem.W.nsIn K mainGlobals "tuple" = some none)
    (zrepr : PySem.W.nsIn K mainGlobals "repr" = some none)
    (zisinstance : PySem.W.nsIn K mainGlobals "isinstance" = some none)
    (zenumerate : PySem.W.nsIn K mainGlobals "enumerate" = some none)
    (zValueError : PySem.W.nsIn K mainGlobals "ValueError" = some none) :
    ∃ fd : FuncData, (∀ (s : Shared) (u : Value), BindsTo s fd ⟨[u], []⟩ [("_law_script", u)]) ∧ ∀ base : Heap, K.In base → base.Ns mainGlobals mg → FnG l.prog w K mg base CX0 20 fa fd ["_law_script"] (spLaw K) := by
  have T : Txt K mg := {
    fInvalidWeekInit := fInvalidWeekInit, fdInvalidWeekInit := _, FInvalidWeekInit := fun_mk lInvalidWeekInit cInvalidWeekInit kInvalidWeekInit,
    fInvalidRuleInit := fInvalidRuleInit, fdInvalidRuleInit := _, FInvalidRuleInit := fun_mk lInvalidRuleInit cInvalidRuleInit kInvalidRuleInit,
    fInvalidMeasureInit := fInvalidMeasureInit, fdInvalidMeasureInit := _, FInvalidMeasureInit := fun_mk lInvalidMeasureInit cInvalidMeasureInit kInvalidMeasureInit,
    fInvalidTextInit := fInvalidTextInit, fdInvalidTextInit := _, FInvalidTextInit := fun_mk lInvalidTextInit cInvalidTextInit kInvalidTextInit,
    fInvalidRainInit := fInvalidRainInit, fdInvalidRainInit := _, FInvalidRainInit := fun_mk lInvalidRainInit cInvalidRainInit kInvalidRainInit,
    fInvalidSeenInit := fInvalidSeenInit, fdInvalidSeenInit := _, FInvalidSeenInit := fun_mk lInvalidSeenInit cInvalidSeenInit kInvalidSeenInit,
    fInvalidCommandInit := fInvalidCommandInit, fdInvalidCommandInit := _, FInvalidCommandInit := fun_mk lInvalidCommandInit cInvalidCommandInit kInvalidCommandInit,
    fRefusedInit := fRefusedInit, fdRefusedInit := _, FRefusedInit := fun_mk lRefusedInit cRefusedInit kRefusedInit,
    fBox := fBox, fdBox := _, FBox := fun_mk lBox cBox kBox,
    gBox := PySem.W.mg_of X G aBox,
    fTake := fTake, fdTake := _, FTake := fun_mk lTake cTake kTake,
    gTake := PySem.W.mg_of X G aTake,
    fPick := fPick, fdPick := _, FPick := fun_mk lPick cPick kPick,
    gPick := PySem.W.mg_of X G aPick,
    fAny := fAny, fdAny := _, FAny := fun_mk lAny cAny kAny,
    gAny := PySem.W.mg_of X G aAny,
    fMade := fMade, fdMade := _, FMade := fun_mk lMade cMade kMade,
    gMade := PySem.W.mg_of X G aMade,
    fNamed := fNamed, fdNamed := _, FNamed := fun_mk lNamed cNamed kNamed,
    gNamed := PySem.W.mg_of X G aNamed,
    fSorts := fSorts, fdSorts := _, FSorts := fun_mk lSorts cSorts kSorts,
    gSorts := PySem.W.mg_of X G aSorts,
    fIsKept := fIsKept, fdIsKept := _, FIsKept := fun_mk lIsKept cIsKept kIsKept,
    gIsKept := PySem.W.mg_of X G aIsKept,
    fLaw := fLaw, fdLaw := _, FLaw := fun_mk lLaw cLaw kLaw,
    gLaw := PySem.W.mg_of X G aLaw,
    CInvalidWeek := CInvalidWeek, gInvalidWeek := PySem.W.mg_of X G AInvalidWeek,
    tInvalidWeek := ⟨⟨⟨_, _, _, _, _, _, _, _, _, _, _, _, _, _, _, xInvalidWeek, rvInvalidWeek⟩, saInvalidWeek, eCInvalidWeek, tCInvalidWeek, kCInvalidWeek⟩, ⟨gaInvalidWeek, ggInvalidWeek, eCInvalidWeek, hCInvalidWeek⟩, ⟨gaInvalidWeek, ggInvalidWeek, eCInvalidWeek, hCInvalidWeek, ccInvalidWeek, zsp, ztk, mCInvalidWeek⟩, aInvalidWeekInit, tfInvalidWeek, noInvalidWeek⟩,
    CInvalidRule := CInvalidRule, gInvalidRule := PySem.W.mg_of X G AInvalidRule,
    tInvalidRule := ⟨⟨⟨_, _, _, _, _, _, _, _, _, _, _, _, _, _, _, xInvalidRule, rvInvalidRule⟩, saInvalidRule, eCInvalidRule, tCInvalidRule, kCInvalidRule⟩, ⟨gaInvalidRule, ggInvalidRule, eCInvalidRule, hCInvalidRule⟩, ⟨gaInvalidRule, ggInvalidRule, eCInvalidRule, hCInvalidRule, ccInvalidRule, zsp, ztk, mCInvalidRule⟩, aInvalidRuleInit, tfInvalidRule, noInvalidRule⟩,
    CInvalidMeasure := CInvalidMeasure, gInvalidMeasure := PySem.W.mg_of X G AInvalidMeasure,
    tInvalidMeasure := ⟨⟨⟨_, _, _, _, _, _, _, _, _, _, _, _, _, _, _, xInvalidMeasure, rvInvalidMeasure⟩, saInvalidMeasure, eCInvalidMeasure, tCInvalidMeasure, kCInvalidMeasure⟩, ⟨gaInvalidMeasure, ggInvalidMeasure, eCInvalidMeasure, hCInvalidMeasure⟩, ⟨gaInvalidMeasure, ggInvalidMeasure, eCInvalidMeasure, hCInvalidMeasure, ccInvalidMeasure, zsp, ztk, mCInvalidMeasure⟩, aInvalidMeasureInit, tfInvalidMeasure, noInvalidMeasure⟩,
    CInvalidText := CInvalidText, gInvalidText := PySem.W.mg_of X G AInvalidText,
    tInvalidText := ⟨⟨⟨_, _, _, _, _, _, _, _, _, _, _, _, _, _, _, xInvalidText, rvInvalidText⟩, saInvalidText, eCInvalidText, tCInvalidText, kCInvalidText⟩, ⟨gaInvalidText, ggInvalidText, eCInvalidText, hCInvalidText⟩, ⟨gaInvalidText, ggInvalidText, eCInvalidText, hCInvalidText, ccInvalidText, zsp, ztk, mCInvalidText⟩, aInvalidTextInit, tfInvalidText, noInvalidText⟩,
    CInvalidRain := CInvalidRain, gInvalidRain := PySem.W.mg_of X G AInvalidRain,
    tInvalidRain := ⟨⟨⟨_, _, _, _, _, _, _, _, _, _, _, _, _, _, _, xInvalidRain, rvInvalidRain⟩, saInvalidRain, eCInvalidRain, tCInvalidRain, kCInvalidRain⟩, ⟨gaInvalidRain, ggInvalidRain, eCInvalidRain, hCInvalidRain⟩, ⟨gaInvalidRain, ggInvalidRain, eCInvalidRain, hCInvalidRain, ccInvalidRain, zsp, ztk, mCInvalidRain⟩, aInvalidRainInit, tfInvalidRain, noInvalidRain⟩,
    CInvalidSeen := CInvalidSeen, gInvalidSeen := PySem.W.mg_of X G AInvalidSeen,
    tInvalidSeen := ⟨⟨⟨_, _, _, _, _, _, _, _, _, _, _, _, _, _, _, xInvalidSeen, rvInvalidSeen⟩, saInvalidSeen, eCInvalidSeen, tCInvalidSeen, kCInvalidSeen⟩, ⟨gaInvalidSeen, ggInvalidSeen, eCInvalidSeen, hCInvalidSeen⟩, ⟨gaInvalidSeen, ggInvalidSeen, eCInvalidSeen, hCInvalidSeen, ccInvalidSeen, zsp, ztk, mCInvalidSeen⟩, aInvalidSeenInit, tfInvalidSeen, noInvalidSeen⟩,
    CRefused := CRefused, gRefused := PySem.W.mg_of X G ARefused,
    tRefused := ⟨⟨⟨_, _, _, _, _, _, _, _, _, _, _, _, _, _, _, xRefused, rvRefused⟩, saRefused, eCRefused, tCRefused, kCRefused⟩, ⟨gaRefused, ggRefused, eCRefused, hCRefused⟩, ⟨gaRefused, ggRefused, eCRefused, hCRefused, ccRefused, zsp, ztk, mCRefused⟩, aRefusedInit, tfRefused, noRefused⟩,
    CInvalidCommand := CInvalidCommand, gInvalidCommand := PySem.W.mg_of X G AInvalidCommand,
    tInvalidCommand := ⟨⟨⟨_, _, _, _, _, _, _, _, _, _, _, _, _, _, _, xInvalidCommand, rvInvalidCommand⟩, saInvalidCommand, eCInvalidCommand, tCInvalidCommand, kCInvalidCommand⟩, ⟨gaInvalidCommand, ggInvalidCommand, eCInvalidCommand, hCInvalidCommand⟩, ⟨gaInvalidCommand, ggInvalidCommand, eCInvalidCommand, hCInvalidCommand, ccInvalidCommand, zsp, ztk, mCInvalidCommand⟩, aInvalidCommandInit, tfInvalidCommand⟩,
    CRainError := CRainError, gRainError := PySem.W.mg_of X G ARainError,
    oRainError := ⟨⟨_, _, _, _, _, _, _, _, _, _, _, _, _, _, _, xRainError, rvRainError⟩, saRainError, eCRainError, tCRainError, kCRainError⟩,
    cRainError := ⟨gaRainError, ggRainError, eCRainError, hCRainError, ccRainError, zsp, ztk, mCRainError⟩,
    m_len := PySem.W.mg_none_of X G zlen,
    m_abs := PySem.W.mg_none_of X G zabs,
    m_int := PySem.W.mg_none_of X G zint,
    m_range := PySem.W.mg_none_of X G zrange,
    m_max := PySem.W.mg_none_of X G zmax,
    m_min := PySem.W.mg_none_of X G zmin,
    m_tuple := PySem.W.mg_none_of X G ztuple,
    m_repr := PySem.W.mg_none_of X G zrepr,
    m_isinstance := PySem.W.mg_none_of X G zisinstance,
    m_enumerate := PySem.W.mg_none_of X G zenumerate,
    m_ValueError := PySem.W.mg_none_of X G zValueError,
    isRainError_RainError := yisRainError_RainError,
    isInvalidWeek_InvalidWeek := yisInvalidWeek_InvalidWeek,
    isInvalidWeek_InvalidRule := yisInvalidWeek_InvalidRule,
    isInvalidWeek_InvalidMeasure := yisInvalidWeek_InvalidMeasure,
    isInvalidWeek_InvalidText := yisInvalidWeek_InvalidText,
    isInvalidWeek_InvalidRain := yisInvalidWeek_InvalidRain,
    isInvalidWeek_InvalidSeen := yisInvalidWeek_InvalidSeen,
    isInvalidWeek_Refused := yisInvalidWeek_Refused,
    isInvalidWeek_InvalidCommand := yisInvalidWeek_InvalidCommand,
    isInvalidWeek_RainError := yisInvalidWeek_RainError,
    isInvalidWeek_V := yisInvalidWeek_V,
    isInvalidRule_InvalidWeek := yisInvalidRule_InvalidWeek,
    isInvalidRule_InvalidRule := yisInvalidRule_InvalidRule,
    isInvalidRule_InvalidMeasure := yisInvalidRule_InvalidMeasure,
    isInvalidRule_InvalidText := yisInvalidRule_InvalidText,
    isInvalidRule_InvalidRain := yisInvalidRule_InvalidRain,
    isInvalidRule_InvalidSeen := yisInvalidRule_InvalidSeen,
    isInvalidRule_Refused := yisInvalidRule_Refused,
    isInvalidRule_InvalidCommand := yisInvalidRule_InvalidCommand,
    isInvalidRule_RainError := yisInvalidRule_RainError,
    isInvalidRule_V := yisInvalidRule_V,
    isInvalidMeasure_InvalidWeek := yisInvalidMeasure_InvalidWeek,
    isInvalidMeasure_InvalidRule := yisInvalidMeasure_InvalidRule,
    isInvalidMeasure_InvalidMeasure := yisInvalidMeasure_InvalidMeasure,
    isInvalidMeasure_InvalidText := yisInvalidMeasure_InvalidText,
    isInvalidMeasure_InvalidRain := yisInvalidMeasure_InvalidRain,
    isInvalidMeasure_InvalidSeen := yisInvalidMeasure_InvalidSeen,
    isInvalidMeasure_Refused := yisInvalidMeasure_Refused,
    isInvalidMeasure_InvalidCommand := yisInvalidMeasure_InvalidCommand,
    isInvalidMeasure_RainError := yisInvalidMeasure_RainError,
    isInvalidMeasure_V := yisInvalidMeasure_V,
    isInvalidText_InvalidWeek := yisInvalidText_InvalidWeek,
    isInvalidText_InvalidRule := yisInvalidText_InvalidRule,
    isInvalidText_InvalidMeasure := yisInvalidText_InvalidMeasure,
    isInvalidText_InvalidText := yisInvalidText_InvalidText,
    isInvalidText_InvalidRain := yisInvalidText_InvalidRain,
    isInvalidText_InvalidSeen := yisInvalidText_InvalidSeen,
    isInvalidText_Refused := yisInvalidText_Refused,
    isInvalidText_InvalidCommand := yisInvalidText_InvalidCommand,
    isInvalidText_RainError := yisInvalidText_RainError,
    isInvalidText_V := yisInvalidText_V,
    isInvalidRain_InvalidWeek := yisInvalidRain_InvalidWeek,
    isInvalidRain_InvalidRule := yisInvalidRain_InvalidRule,
    isInvalidRain_InvalidMeasure := yisInvalidRain_InvalidMeasure,
    isInvalidRain_InvalidText := yisInvalidRain_InvalidText,
    isInvalidRain_InvalidRain := yisInvalidRain_InvalidRain,
    isInvalidRain_InvalidSeen := yisInvalidRain_InvalidSeen,
    isInvalidRain_Refused := yisInvalidRain_Refused,
    isInvalidRain_InvalidCommand := yisInvalidRain_InvalidCommand,
    isInvalidRain_RainError := yisInvalidRain_RainError,
    isInvalidRain_V := yisInvalidRain_V,
    isInvalidSeen_InvalidWeek := yisInvalidSeen_InvalidWeek,
    isInvalidSeen_InvalidRule := yisInvalidSeen_InvalidRule,
    isInvalidSeen_InvalidMeasure := yisInvalidSeen_InvalidMeasure,
    isInvalidSeen_InvalidText := yisInvalidSeen_InvalidText,
    isInvalidSeen_InvalidRain := yisInvalidSeen_InvalidRain,
    isInvalidSeen_InvalidSeen := yisInvalidSeen_InvalidSeen,
    isInvalidSeen_Refused := yisInvalidSeen_Refused,
    isInvalidSeen_InvalidCommand := yisInvalidSeen_InvalidCommand,
    isInvalidSeen_RainError := yisInvalidSeen_RainError,
    isInvalidSeen_V := yisInvalidSeen_V,
    isRefused_InvalidWeek := yisRefused_InvalidWeek,
    isRefused_InvalidRule := yisRefused_InvalidRule,
    isRefused_InvalidMeasure := yisRefused_InvalidMeasure,
    isRefused_InvalidText := yisRefused_InvalidText,
    isRefused_InvalidRain := yisRefused_InvalidRain,
    isRefused_InvalidSeen := yisRefused_InvalidSeen,
    isRefused_Refused := yisRefused_Refused,
    isRefused_InvalidCommand := yisRefused_InvalidCommand,
    isRefused_RainError := yisRefused_RainError,
    isRefused_V := yisRefused_V,
    isInvalidCommand_InvalidWeek := yisInvalidCommand_InvalidWeek,
    isInvalidCommand_InvalidRule := yisInvalidCommand_InvalidRule,
    isInvalidCommand_InvalidMeasure := yisInvalidCommand_InvalidMeasure,
    isInvalidCommand_InvalidText := yisInvalidCommand_InvalidText,
    isInvalidCommand_InvalidRain := yisInvalidCommand_InvalidRain,
    isInvalidCommand_InvalidSeen := yisInvalidCommand_InvalidSeen,
    isInvalidCommand_Refused := yisInvalidCommand_Refused,
    isInvalidCommand_InvalidCommand := yisInvalidCommand_InvalidCommand,
    isInvalidCommand_RainError := yisInvalidCommand_RainError,
    isInvalidCommand_V := yisInvalidCommand_V }
  cases hfa.symm.trans T.gLaw
  exact ⟨T.fdLaw, bnd_law T.FLaw, fun base _ _ => ok_law T⟩
end L01
open PySem PySem.W PyProof.Rows
set_option maxRecDepth 100000 in
set_option maxHeartbeats 0 in
theorem PySem.Challenge.cw_rainweeks_k01_errors_and_what_they_keep_holds : PySem.Challenge.rw_rainweeks_k01_errors_and_what_they_keep.Holds := by
  w_on; o_law; k_head; (case hw => w_witness2)
  k_fill
  refine Rw.walk_g (l := PySem.Challenge.rw_rainweeks_k01_errors_and_what_they_keep) (n := 63) (k := 20) (x := "_law_script") (CX := L2.CX0) (sp := Rw.spLaw) rfl (by decide) rfl ⟨rfl, by decide, by decide⟩ (fun w h Y => PySem.W.kIn_of Y) ?F Rw.sp_start (fun _ _ _ _ h => h)
  case F =>
    intro w mg fa h KX G hmg
    refine' L01.fin KX G hmg ?AInvalidWeek ?xInvalidWeek ?saInvalidWeek ?gaInvalidWeek ?ggInvalidWeek ?ccInvalidWeek ?noInvalidWeek ?eCInvalidWeek ?tCInvalidWeek ?kCInvalidWeek ?hCInvalidWeek ?mCInvalidWeek ?rvInvalidWeek ?AInvalidRule ?xInvalidRule ?saInvalidRule ?gaInvalidRule ?ggInvalidRule ?ccInvalidRule ?noInvalidRule ?eCInvalidRule ?tCInvalidRule ?kCInvalidRule ?hCInvalidRule ?mCInvalidRule ?rvInvalidRule ?AInvalidMeasure ?xInvalidMeasure ?saInvalidMeasure ?gaInvalidMeasure ?ggInvalidMeasure ?ccInvalidMeasure ?noInvalidMeasure ?eCInvalidMeasure ?tCInvalidMeasure ?kCInvalidMeasure ?hCInvalidMeasure ?mCInvalidMeasure ?rvInvalidMeasure ?AInvalidText ?xInvalidText ?saInvalidText ?gaInvalidText ?ggInvalidText ?ccInvalidText ?noInvalidText ?eCInvalidText ?tCInvalidText ?kCInvalidText ?hCInvalidText ?mCInvalidText ?rvInvalidText ?AInvalidRain ?xInvalidRain ?saInvalidRain ?gaInvalidRain ?ggInvalidRain ?ccInvalidRain ?noInvalidRain ?eCInvalidRain ?tCInvalidRain ?kCInvalidRain ?hCInvalidRain ?mCInvalidRain ?rvInvalidRain ?AInvalidSeen ?xInvalidSeen ?saInvalidSeen ?gaInvalidSeen ?ggInvalidSeen ?ccInvalidSeen ?noInvalidSeen ?eCInvalidSeen ?tCInvalidSeen ?kCInvalidSeen ?hCInvalidSeen ?mCInvalidSeen ?rvInvalidSeen ?ARefused ?xRefused ?saRefused ?gaRefused ?ggRefused ?ccRefused ?noRefused ?eCRefused ?tCRefused ?kCRefused ?hCRefused ?mCRefused ?rvRefused ?AInvalidCommand ?xInvalidCommand ?saInvalidCommand ?gaInvalidCommand ?ggInvalidCommand ?ccInvalidCommand ?eCInvalidCommand ?tCInvalidCommand ?kCInvalidCommand ?hCInvalidCommand ?mCInvalidCommand ?rvInvalidCommand ?ARainError ?xRainError ?saRainError ?gaRainError ?ggRainError ?ccRainError ?eCRainError ?tCRainError ?kCRainError ?hCRainError ?mCRainError ?rvRainError ?zsp ?ztk ?yisRainError_RainError ?yisInvalidWeek_InvalidWeek ?yisInvalidWeek_InvalidRule ?yisInvalidWeek_InvalidMeasure ?yisInvalidWeek_InvalidText ?yisInvalidWeek_InvalidRain ?yisInvalidWeek_InvalidSeen ?yisInvalidWeek_Refused ?yisInvalidWeek_InvalidCommand ?yisInvalidWeek_RainError ?yisInvalidWeek_V ?yisInvalidRule_InvalidWeek ?yisInvalidRule_InvalidRule ?yisInvalidRule_InvalidMeasure ?yisInvalidRule_InvalidText ?yisInvalidRule_InvalidRain ?yisInvalidRule_InvalidSeen ?yisInvalidRule_Refused ?yisInvalidRule_InvalidCommand ?yisInvalidRule_RainError ?yisInvalidRule_V ?yisInvalidMeasure_InvalidWeek ?yisInvalidMeasure_InvalidRule ?yisInvalidMeasure_InvalidMeasure ?yisInvalidMeasure_InvalidText ?yisInvalidMeasure_InvalidRain ?yisInvalidMeasure_InvalidSeen ?yisInvalidMeasure_Refused ?yisInvalidMeasure_InvalidCommand ?yisInvalidMeasure_RainError ?yisInvalidMeasure_V ?yisInvalidText_InvalidWeek ?yisInvalidText_InvalidRule ?yisInvalidText_InvalidMeasure ?yisInvalidText_InvalidText ?yisInvalidText_InvalidRain ?yisInvalidText_InvalidSeen ?yisInvalidText_Refused ?yisInvalidText_InvalidCommand ?yisInvalidText_RainError ?yisInvalidText_V ?yisInvalidRain_InvalidWeek ?yisInvalidRain_InvalidRule ?yisInvalidRain_InvalidMeasure ?yisInvalidRain_InvalidText ?yisInvalidRain_InvalidRain ?yisInvalidRain_InvalidSeen ?yisInvalidRain_Refused ?yisInvalidRain_InvalidCommand ?yisInvalidRain_RainError ?yisInvalidRain_V ?yisInvalidSeen_InvalidWeek ?yisInvalidSeen_InvalidRule ?yisInvalidSeen_InvalidMeasure ?yisInvalidSeen_InvalidText ?yisInvalidSeen_InvalidRain ?yisInvalidSeen_InvalidSeen ?yisInvalidSeen_Refused ?yisInvalidSeen_InvalidCommand ?yisInvalidSeen_RainError ?yisInvalidSeen_V ?yisRefused_InvalidWeek ?yisRefused_InvalidRule ?yisRefused_InvalidMeasure ?yisRefused_InvalidText ?yisRefused_InvalidRain ?yisRefused_InvalidSeen ?yisRefused_Refused ?yisRefused_InvalidCommand ?yisRefused_RainError ?yisRefused_V ?yisInvalidCommand_InvalidWeek ?yisInvalidCommand_InvalidRule ?yisInvalidCommand_InvalidMeasure ?yisInvalidCommand_InvalidText ?yisInvalidCommand_InvalidRain ?yisInvalidCommand_InvalidSeen ?yisInvalidCommand_Refused ?yisInvalidCommand_InvalidCommand ?yisInvalidCommand_RainError ?yisInvalidCommand_V ?aInvalidWeekInit ?iInvalidWeekInit ?lInvalidWeekInit ?cInvalidWeekInit ?kInvalidWeekInit ?aInvalidRuleInit ?iInvalidRuleInit ?lInvalidRuleInit ?cInvalidRuleInit ?kInvalidRuleInit ?aInvalidMeasureInit ?iInvalidMeasureInit ?lInvalidMeasureInit ?cInvalidMeasureInit ?kInvalidMeasureInit ?aInvalidTextInit ?iInvalidTextInit ?lInvalidTextInit ?cInvalidTextInit ?kInvalidTextInit ?aInvalidRainInit ?iInvalidRainInit ?lInvalidRainInit ?cInvalidRainInit ?kInvalidRainInit ?aInvalidSeenInit ?iInvalidSeenInit ?lInvalidSeenInit ?cInvalidSeenInit ?kInvalidSeenInit ?aInvalidCommandInit ?iInvalidCommandInit ?lInvalidCommandInit ?cInvalidCommandInit ?kInvalidCommandInit ?aRefusedInit ?iRefusedInit ?lRefusedInit ?cRefusedInit ?kRefusedInit ?aBox ?lBox ?cBox ?kBox ?aTake ?lTake ?cTake ?kTake ?aPick ?lPick ?cPick ?kPick ?aAny ?lAny ?cAny ?kAny ?aMade ?lMade ?cMade ?kMade ?aNamed ?lNamed ?cNamed ?kNamed ?aSorts ?lSorts ?cSorts ?kSorts ?aIsKept ?lIsKept ?cIsKept ?kIsKept ?aLaw ?lLaw ?cLaw ?kLaw ?tfInvalidWeek ?tfInvalidRule ?tfInvalidMeasure ?tfInvalidText ?tfInvalidRain ?tfInvalidSeen ?tfRefused ?tfInvalidCommand ?zlen ?zabs ?zint ?zrange ?zmax ?zmin ?ztuple ?zrepr ?zisinstance ?zenumerate ?zValueError
    (case AInvalidWeek => k_is)
    (case xInvalidWeek => k_is)
    (case saInvalidWeek => k_is)
    (case gaInvalidWeek => k_is)
    (case ggInvalidWeek => k_is)
    (case ccInvalidWeek => k_is)
    (case noInvalidWeek => k_is)
    (case eCInvalidWeek => k_is)
    (case tCInvalidWeek => k_is)
    (case kCInvalidWeek => k_is)
    (case hCInvalidWeek => k_is)
    (case mCInvalidWeek => k_is)
    (case rvInvalidWeek => first | rfl | k_is)
    (case AInvalidRule => k_is)
    (case xInvalidRule => k_is)
    (case saInvalidRule => k_is)
    (case gaInvalidRule => k_is)
    (case ggInvalidRule => k_is)
    (case ccInvalidRule => k_is)
    (case noInvalidRule => k_is)
    (case eCInvalidRule => k_is)
    (case tCInvalidRule => k_is)
    (case kCInvalidRule => k_is)
    (case hCInvalidRule => k_is)
    (case mCInvalidRule => k_is)
    (case rvInvalidRule => first | rfl | k_is)
    (case AInvalidMeasure => k_is)
    (case xInvalidMeasure => k_is)
    (case saInvalidMeasure => k_is)
    (case gaInvalidMeasure => k_is)
    (case ggInvalidMeasure => k_is)
    (case ccInvalidMeasure => k_is)
    (case noInvalidMeasure => k_is)
    (case eCInvalidMeasure => k_is)
    (case tCInvalidMeasure => k_is)
    (case kCInvalidMeasure => k_is)
    (case hCInvalidMeasure => k_is)
    (case mCInvalidMeasure => k_is)
    (case rvInvalidMeasure => first | rfl | k_is)
    (case AInvalidText => k_is)
    (case xInvalidText => k_is)
    (case saInvalidText => k_is)
    (case gaInvalidText => k_is)
    (case ggInvalidText => k_is)
    (case ccInvalidText => k_is)
    (case noInvalidText => k_is)
    (case eCInvalidText => k_is)
    (case tCInvalidText => k_is)
    (case kCInvalidText => k_is)
    (case hCInvalidText => k_is)
    (case mCInvalidText => k_is)
    (case rvInvalidText => first | rfl | k_is)
    (case AInvalidRain => k_is)
    (case xInvalidRain => k_is)
    (case saInvalidRain => k_is)
    (case gaInvalidRain => k_is)
    (case ggInvalidRain => k_is)
    (case ccInvalidRain => k_is)
    (case noInvalidRain => k_is)
    (case eCInvalidRain => k_is)
    (case tCInvalidRain => k_is)
    (case kCInvalidRain => k_is)
    (case hCInvalidRain => k_is)
    (case mCInvalidRain => k_is)
    (case rvInvalidRain => first | rfl | k_is)
    (case AInvalidSeen => k_is)
    (case xInvalidSeen => k_is)
    (case saInvalidSeen => k_is)
    (case gaInvalidSeen => k_is)
    (case ggInvalidSeen => k_is)
    (case ccInvalidSeen => k_is)
    (case noInvalidSeen => k_is)
    (case eCInvalidSeen => k_is)
    (case tCInvalidSeen => k_is)
    (case kCInvalidSeen => k_is)
    (case hCInvalidSeen => k_is)
    (case mCInvalidSeen => k_is)
    (case rvInvalidSeen => first | rfl | k_is)
    (case ARefused => k_is)
    (case xRefused => k_is)
    (case saRefused => k_is)
    (case gaRefused => k_is)
    (case ggRefused => k_is)
    (case ccRefused => k_is)
    (case noRefused => k_is)
    (case eCRefused => k_is)
    (case tCRefused => k_is)
    (case kCRefused => k_is)
    (case hCRefused => k_is)
    (case mCRefused => k_is)
    (case rvRefused => first | rfl | k_is)
    (case AInvalidCommand => k_is)
    (case xInvalidCommand => k_is)
    (case saInvalidCommand => k_is)
    (case gaInvalidCommand => k_is)
    (case ggInvalidCommand => k_is)
    (case ccInvalidCommand => k_is)
    (case eCInvalidCommand => k_is)
    (case tCInvalidCommand => k_is)
    (case kCInvalidCommand => k_is)
    (case hCInvalidCommand => k_is)
    (case mCInvalidCommand => k_is)
    (case rvInvalidCommand => first | rfl | k_is)
    (case ARainError => k_is)
    (case xRainError => k_is)
    (case saRainError => k_is)
    (case gaRainError => k_is)
    (case ggRainError => k_is)
    (case ccRainError => k_is)
    (case eCRainError => k_is)
    (case tCRainError => k_is)
    (case kCRainError => k_is)
    (case hCRainError => k_is)
    (case mCRainError => k_is)
    (case rvRainError => first | rfl | k_is)
    (case zsp => k_is)
    (case ztk => k_is)
    (case yisRainError_RainError => k_is)
    (case yisInvalidWeek_InvalidWeek => k_is)
    (case yisInvalidWeek_InvalidRule => k_is)
    (case yisInvalidWeek_InvalidMeasure => k_is)
    (case yisInvalidWeek_InvalidText => k_is)
    (case yisInvalidWeek_InvalidRain => k_is)
    (case yisInvalidWeek_InvalidSeen => k_is)
    (case yisInvalidWeek_Refused => k_is)
    (case yisInvalidWeek_InvalidCommand => k_is)
    (case yisInvalidWeek_RainError => k_is)
    (case yisInvalidWeek_V => k_is)
    (case yisInvalidRule_InvalidWeek => k_is)
    (case yisInvalidRule_InvalidRule => k_is)
    (case yisInvalidRule_InvalidMeasure => k_is)
    (case yisInvalidRule_InvalidText => k_is)
    (case yisInvalidRule_InvalidRain => k_is)
    (case yisInvalidRule_InvalidSeen => k_is)
    (case yisInvalidRule_Refused => k_is)
    (case yisInvalidRule_InvalidCommand => k_is)
    (case yisInvalidRule_RainError => k_is)
    (case yisInvalidRule_V => k_is)
    (case yisInvalidMeasure_InvalidWeek => k_is)
    (case yisInvalidMeasure_InvalidRule => k_is)
    (case yisInvalidMeasure_InvalidMeasure => k_is)
    (case yisInvalidMeasure_InvalidText => k_is)
    (case yisInvalidMeasure_InvalidRain => k_is)
    (case yisInvalidMeasure_InvalidSeen => k_is)
    (case yisInvalidMeasure_Refused => k_is)
    (case yisInvalidMeasure_InvalidCommand => k_is)
    (case yisInvalidMeasure_RainError => k_is)
    (case yisInvalidMeasure_V => k_is)
    (case yisInvalidText_InvalidWeek => k_is)
    (case yisInvalidText_InvalidRule => k_is)
    (case yisInvalidText_InvalidMeasure => k_is)
    (case yisInvalidText_InvalidText => k_is)
    (case yisInvalidText_InvalidRain => k_is)
    (case yisInvalidText_InvalidSeen => k_is)
    (case yisInvalidText_Refused => k_is)
    (case yisInvalidText_InvalidCommand => k_is)
    (case yisInvalidText_RainError => k_is)
    (case yisInvalidText_V => k_is)
    (case yisInvalidRain_InvalidWeek => k_is)
    (case yisInvalidRain_InvalidRule => k_is)
    (case yisInvalidRain_InvalidMeasure => k_is)
    (case yisInvalidRain_InvalidText => k_is)
    (case yisInvalidRain_InvalidRain => k_is)
    (case yisInvalidRain_InvalidSeen => k_is)
    (case yisInvalidRain_Refused => k_is)
    (case yisInvalidRain_InvalidCommand => k_is)
    (case yisInvalidRain_RainError => k_is)
    (case yisInvalidRain_V => k_is)
    (case yisInvalidSeen_InvalidWeek => k_is)
    (case yisInvalidSeen_InvalidRule => k_is)
    (case yisInvalidSeen_InvalidMeasure => k_is)
    (case yisInvalidSeen_InvalidText => k_is)
    (case yisInvalidSeen_InvalidRain => k_is)
    (case yisInvalidSeen_InvalidSeen => k_is)
    (case yisInvalidSeen_Refused => k_is)
    (case yisInvalidSeen_InvalidCommand => k_is)
    (case yisInvalidSeen_RainError => k_is)
    (case yisInvalidSeen_V => k_is)
    (case yisRefused_InvalidWeek => k_is)
    (case yisRefused_InvalidRule => k_is)
    (case yisRefused_InvalidMeasure => k_is)
    (case yisRefused_InvalidText => k_is)
    (case yisRefused_InvalidRain => k_is)
    (case yisRefused_InvalidSeen => k_is)
    (case yisRefused_Refused => k_is)
    (case yisRefused_InvalidCommand => k_is)
    (case yisRefused_RainError => k_is)
    (case yisRefused_V => k_is)
    (case yisInvalidCommand_InvalidWeek => k_is)
    (case yisInvalidCommand_InvalidRule => k_is)
    (case yisInvalidCommand_InvalidMeasure => k_is)
    (case yisInvalidCommand_InvalidText => k_is)
    (case yisInvalidCommand_InvalidRain => k_is)
    (case yisInvalidCommand_InvalidSeen => k_is)
    (case yisInvalidCommand_Refused => k_is)
    (case yisInvalidCommand_InvalidCommand => k_is)
    (case yisInvalidCommand_RainError => k_is)
    (case yisInvalidCommand_V => k_is)
    (case aInvalidWeekInit => k_is)
    (case iInvalidWeekInit => k_is)
    (case lInvalidWeekInit => k_is)
    (case cInvalidWeekInit => k_is)
    (case kInvalidWeekInit => k_is)
    (case aInvalidRuleInit => k_is)
    (case iInvalidRuleInit => k_is)
    (case lInvalidRuleInit => k_is)
    (case cInvalidRuleInit => k_is)
    (case kInvalidRuleInit => k_is)
    (case aInvalidMeasureInit => k_is)
    (case iInvalidMeasureInit => k_is)
    (case lInvalidMeasureInit => k_is)
    (case cInvalidMeasureInit => k_is)
    (case kInvalidMeasureInit => k_is)
    (case aInvalidTextInit => k_is)
    (case iInvalidTextInit => k_is)
    (case lInvalidTextInit => k_is)
    (case cInvalidTextInit => k_is)
    (case kInvalidTextInit => k_is)
    (case aInvalidRainInit => k_is)
    (case iInvalidRainInit => k_is)
    (case lInvalidRainInit => k_is)
    (case cInvalidRainInit => k_is)
    (case kInvalidRainInit => k_is)
    (case aInvalidSeenInit => k_is)
    (case iInvalidSeenInit => k_is)
    (case lInvalidSeenInit => k_is)
    (case cInvalidSeenInit => k_is)
    (case kInvalidSeenInit => k_is)
    (case aInvalidCommandInit => k_is)
    (case iInvalidCommandInit => k_is)
    (case lInvalidCommandInit => k_is)
    (case cInvalidCommandInit => k_is)
    (case kInvalidCommandInit => k_is)
    (case aRefusedInit => k_is)
    (case iRefusedInit => k_is)
    (case lRefusedInit => k_is)
    (case cRefusedInit => k_is)
    (case kRefusedInit => k_is)
    (case aBox => k_is)
    (case lBox => k_is)
    (case cBox => k_is)
    (case kBox => k_is)
    (case aTake => k_is)
    (case lTake => k_is)
    (case cTake => k_is)
    (case kTake => k_is)
    (case aPick => k_is)
    (case lPick => k_is)
    (case cPick => k_is)
    (case kPick => k_is)
    (case aAny => k_is)
    (case lAny => k_is)
    (case cAny => k_is)
    (case kAny => k_is)
    (case aMade => k_is)
    (case lMade => k_is)
    (case cMade => k_is)
    (case kMade => k_is)
    (case aNamed => k_is)
    (case lNamed => k_is)
    (case cNamed => k_is)
    (case kNamed => k_is)
    (case aSorts => k_is)
    (case lSorts => k_is)
    (case cSorts => k_is)
    (case kSorts => k_is)
    (case aIsKept => k_is)
    (case lIsKept => k_is)
    (case cIsKept => k_is)
    (case kIsKept => k_is)
    (case aLaw => k_is)
    (case lLaw => k_is)
    (case cLaw => k_is)
    (case kLaw => k_is)
    (case tfInvalidWeek => k_is)
    (case tfInvalidRule => k_is)
    (case tfInvalidMeasure => k_is)
    (case tfInvalidText => k_is)
    (case tfInvalidRain => k_is)
    (case tfInvalidSeen => k_is)
    (case tfRefused => k_is)
    (case tfInvalidCommand => k_is)
    (case zlen => k_is)
    (case zabs => k_is)
    (case zint => k_is)
    (case zrange => k_is)
    (case zmax => k_is)
    (case zmin => k_is)
    (case ztuple => k_is)
    (case zrepr => k_is)
    (case zisinstance => k_is)
    (case zenumerate => k_is)
    (case zValueError => k_is)
