import PyProof.Rows.All
import Wide.All
import OpenK.AllK
import Wide.FinOn
import HandS.ForExc
import HandS.Codes
import HandS.IsInst
import HandS.Wide
import HandS.EndBits
import HandS.ExcInit
import HandS.ExcIs
import HandS.MakeKw
import KE.KExcIs
import HandS.MakeKwOnly
import HandS.Comp
import PySem.Challenge.RW_everyspan_k01_errors_made
import KE.RegKIsAll
set_option Elab.async false
set_option linter.all false
set_option maxRecDepth 100000
/-! Own rules over the hand layer: powers of great ints; defs that are promised only where no text of an object is being made around them (for repr). -/
namespace Ev
open PySem PySem.Spec PyProof.Rows L2

/-! ### powers -/
def CPowW (i j : Int) : Prop := 0 ≤ j ∧ j ≤ 1000 ∧ i.natAbs < 2 ^ 2000
section
variable {X : Cx}
theorem op_powW : OpR X (binaryOp .Pow) (rI CPowW fun i j => .int (i ^ j.toNat)) := opI fun i j _ _ _ _ _ hc q => by
  obtain ⟨h0, h1, h2⟩ := hc
  refine pow_int h0 ?_ q
  have hb : Builtin.Int.intBits i ≤ 2000 := by
    have h3 := PySem.Flt.log2_lt_of (by decide : 0 < 2000) h2
    unfold Builtin.Int.intBits
    split <;> omega
  have h4 : (Builtin.Int.intBits i : Int) * j ≤ 2000 * 1000 := by
    have a1 : (Builtin.Int.intBits i : Int) ≤ 2000 := by omega
    exact Int.le_trans (Int.mul_le_mul_of_nonneg_right a1 h0) (Int.mul_le_mul_of_nonneg_left h1 (by decide))
  have h5 : (2 : Int) ^ 27 = 134217728 := by decide
  omega

/-! ### repr -/
/-- repr of data of any depth, where nothing around is being shown -/
def rRepr (K : PySem.W.Frag) : List V → Hp → VK → Prop := fun xs H Q => ∃ (x : V) (d : PyData), xs = [x] ∧ Dp K H x d ∧ d.showable = true ∧ d.hasDict = false ∧ d.depth ≤ 100 ∧ d.shown.length ≤ sizeLine ∧ Q (.str d.shown) H
theorem call_repr_data (hg : X.A.guards = some []) (hu : X.A.units + 200 < cLine) : CallR X (.builtin "repr") (rRepr X.K) := by
  intro pins s σ H xs us Q I r h
  obtain ⟨x, d, rfl, hd, hs, hn, hp, hz, q⟩ := h
  obtain ⟨u, rfl, ru⟩ := vals1 r
  obtain ⟨as, rd⟩ := Dp.reads I d x u hd ru
  have far : ∀ a : Addr, u = .ref a → wpAny (model X.prog X.w) X.A (call (.builtin "repr") [u]) (EP X pins σ Q) X.xe s := fun a e => by
    subst e
    exact repr_of_reads' rd hs (PyData.noDict_hsm hn) hg (by omega) (fun _ _ z => z) (fun h' u tk hk => ⟨.str d.shown, H, I.kept (t' := tk) hk, ⟨u, rfl⟩, q⟩) hz
  cases hd with
  | non =>
    cases (show u = Value.none from ru)
    exact PySem.P.repr_of_none ⟨.str _, H, I.tok _, ⟨_, rfl⟩, by simpa only [PyData.shown] using q⟩
  | bl b =>
    cases (show u = Value.bool b from ru)
    exact PySem.P.repr_of_bool ⟨.str _, H, I.tok _, ⟨_, rfl⟩, by simpa only [PyData.shown] using q⟩
  | int i =>
    obtain ⟨t, e⟩ := (show ∃ t, u = Value.int i t from ru)
    subst e
    exact PySem.P.repr_of_int (by simpa [PyData.showable] using hs) ⟨.str _, H, I.tok _, ⟨_, rfl⟩, by simpa only [PyData.shown] using q⟩
  | str y =>
    obtain ⟨t, e⟩ := (show ∃ t, u = Value.str y t from ru)
    subst e
    exact PySem.P.repr_of_str ⟨.str _, H, I.tok _, ⟨_, rfl⟩, by simpa only [PyData.shown] using q⟩ (by simpa only [PyData.shown] using hz)
  | @lst a xs ds e1 e2 => exact far a (show u = Value.ref a from ru)
  | @tup a xs ds e1 e2 => exact far a (show u = Value.ref a from ru)
end

/-! ### defs that show things -/
structure FnG (P : Program) (w : World) (K : PySem.W.Frag) (mg : Str → Option Value) (base : Heap) (CX : CXT) (k : Nat) (f : Addr) (fd : FuncData) (ps : List Str) (sp : Sp) : Prop where
  size : ∀ vs H Q E, sp vs H Q E → vs.length = ps.length
  does : ∀ (A : Around) (fr : List Env) (s : Shared) (H : Hp) (as : Args) (us : List Value) (vs : List V) (Q : VK) (E : XK),
    Room k A ∧ A.guards = some [] → Env0 P w K mg base A fr s H → BindsTo s fd as (ps.zip us) → Vals vs us → sp vs H Q E → codeAny (model P w) A (.call (.ref f) as) (CR CX fr P w H s Q E) s
theorem FnG.of {P : Program} {w : World} {K : PySem.W.Frag} {mg : Str → Option Value} {base : Heap} {CX : CXT} {k : Nat} {f : Addr} {fd : FuncData} {ps : List Str} {sp : Sp}
    (F : FnOk P w K mg base CX k f fd ps sp) : FnG P w K mg base CX k f fd ps sp :=
  ⟨F.len, fun A fr s H as us vs Q E hr e0 hb hv hs => F.run A fr s H as us vs Q E hr.1 e0 hb hv hs⟩
section
variable {X : Cx} {CX : CXT} {k : Nat} {f : Addr} {fd : FuncData} {ps : List Str} {sp : Sp} {E : XK} {x : Str} {p pos : Pos} {e : Expr} {es : List Expr} {t : TA}
/-- f(e, ..), all parameters given -/
theorem pe_callG (F : FnG X.prog X.w X.K X.mg X.base CX k f fd ps sp) (hr : Room k X.A) (hgu : X.A.guards = some []) (hg : Gl X x) (hm : X.mg x = some (.ref f)) (hk : PySem.W.keepIn X.K (.ref f) = true)
    (hb : Binds X.K fd ps []) (hx : Passes CX X E) (ha : PA X (e :: es) t) (hdb : (x == ("__debug__" : Str)) = false := by decide)
    (he : starEach (e :: es) X.env = (false, eval e X.env) :: starEach es X.env := by rfl) (hpl : (backTo pos (starEach es X.env)).any (·.1) = false := by rfl) :
    PE X (.Call (.Name x p) (e :: es) [] pos) (tCall sp [] E t) := ⟨fun pins s σ H Q I h => by
  refine wpAny_Call_Name_kw (ld_glob I hg hm ?_ hdb)
  refine PySem.W.callWith_K (h₀ := X.base) I.ok.mod.kin hk (thn (ha.run pos pins s σ H _ I h) fun us s1 got => ?_) he hpl
  obtain ⟨vs, H1, I1, r, q⟩ := got
  refine ⟨I1.kIn, ?_⟩
  rw [List.append_nil] at q
  have hl : (us ++ []).length = ps.length := by
    rw [List.append_nil, ← r.length]
    exact F.size _ _ _ _ q
  have hb1 := hb s1 us I1.kIn hl
  rw [List.append_nil] at hb1
  refine wpAny_call (codeAny_mono (F.does X.A X.stack s1 H1 ⟨us, []⟩ us vs Q E ⟨hr, hgu⟩ I1.env0 hb1 r q) fun res s' hq => ?_)
  rcases res with er | fl
  · exact hx pins σ H1 s1 er s' I1 hq
  · rcases fl with _ | _ | _ | u
    · exact False.elim hq
    · exact False.elim hq
    · exact False.elim hq
    · exact I1.after hq⟩
end
/-- a def by its body, which may lean on it that nothing is being shown around -/
theorem fnG_of {P : Program} {w : World} {K : PySem.W.Frag} {mg : Str → Option Value} {base : Heap} {x qual : Str} {st : Stmt} {f : Addr} {fd : FuncData} {N ps : List Str} {k : Nat} {sp : Sp} (F : Fun K x qual st f fd) (S : FnScope N ps (defScope st))
    (len : ∀ vs H Q E, sp vs H Q E → vs.length = ps.length)
    (body : ∀ (cdv : Value) (A : Around) (fr : List Env) (s : Shared) (H : Hp) (vs : List V) (Q : VK) (E : XK), A.guards = some [] → Room k (A.deeper (envOfC qual (defScope st) s.heap.objs.size f cdv)) → sp vs H Q E →
      ∃ t, PSs (cxOf CX0 P w K mg base N qual (defScope st) f cdv A fr s H E).nox (defBody st) t ∧ t { nx := fun _ H' => Q .non H', rt := Q } (start N vs) H) :
    FnG P w K mg base CX0 (k + 1) f fd ps sp := by
  obtain ⟨oc, od, kV, doc, pm, an, cdv, ct, osl, rfl, lk, hcd⟩ := F.ex
  refine ⟨len, fun A fr s H as us vs Q E hr e0 hb rv hsp => ?_⟩
  obtain ⟨hroom, hgu⟩ := hr
  have up : ∀ b o, base.get? b = some o → s.heap.get? b = some o := fun b o z => (e0.bs b o z).1
  have KX : K.In s.heap := e0.mod.kin.keeps up
  have par : ∀ y ∈ ps.zip us, (defScope st).names.lookup y.1 = some .local ∨ ((defScope st).names.lookup y.1 = some .cell ∧ ((cellsFrom (s.heap.objs.size + 1) (defScope st).names []).lookup y.1).isSome = true) := by
    rintro ⟨n, v⟩ hy
    rcases S.par n (List.of_mem_zip hy).1 with q | q
    · exact Or.inl q
    · exact Or.inr ⟨q, PySem.W.cellsFrom_some _ _ _ (Or.inl q)⟩
  refine codeAny_call_function hroom.depth (KX _ _ lk) rfl S.co S.gen rfl (PySem.W.codeRec_of KX hcd) (hb _ _ _ _ ?_)
  refine wpAny_newFunctionEnv_cells S.kind par fun env he s1 ic => ?_
  subst he
  refine ⟨(e0.mod.nolimit.keeps up).keeps ic.toInCall.keep, codeAny_func ?_⟩
  obtain ⟨t, ht, hq⟩ := body cdv A fr s H vs Q E hgu (hroom.deeper _) hsp
  have I : Inv (cxOf CX0 P w K mg base N qual (defScope st) f cdv A fr s H E) [] (start N vs) H s1 := inv_start S hroom.hd e0 (len _ _ _ _ hsp) rv ic
  refine wpAny_mono (ht.nox.run [] s1 (start N vs) H _ I hq) (fun fl s' hs => ?_) fun er s' hs => hs
  rcases fl with _ | _ | _ | u
  · obtain ⟨σ', H', J, q⟩ := hs
    exact ⟨V.non, H', J.os, J.bare, J.base, J.hok, rfl, q⟩
  · exact hs.elim fun _ z => z.elim fun _ z => False.elim z.2
  · exact hs.elim fun _ z => z.elim fun _ z => False.elim z.2
  · obtain ⟨v, σ', H', J, r2, q⟩ := hs
    exact ⟨v, H', J.os, J.bare, J.base, J.hok, r2, q⟩
end Ev

namespace Ev
open PySem PySem.Spec PyProof.Rows L2
/-- such a def as a constant of the module -/
structure CalG (P : Program) (w : World) (K : PySem.W.Frag) (mg : Str → Option Value) (base : Heap) (k : Nat) (x : Str) (sp : Sp) : Prop where
  ex : ∃ (f : Addr) (fd : FuncData) (ps : List Str), FnG P w K mg base CX0 k f fd ps sp ∧ mg x = some (.ref f) ∧ PySem.W.keepIn K (.ref f) = true ∧ Binds K fd ps []
theorem pe_cG {X : Cx} {k j : Nat} {x : Str} {sp : Sp} {p pos : Pos} {e : Expr} {es : List Expr} {t : TA} (c : CalG X.prog X.w X.K X.mg X.base k x sp) (hr : Room j X.A) (hk : k ≤ j) (hgu : X.A.guards = some []) (hg : Gl X x) (ha : PA X (e :: es) t)
    (hdb : (x == ("__debug__" : Str)) = false := by decide) (he : starEach (e :: es) X.env = (false, eval e X.env) :: starEach es X.env := by rfl) (hpl : (backTo pos (starEach es X.env)).any (·.1) = false := by rfl) :
    PE X (.Call (.Name x p) (e :: es) [] pos) (tCall sp [] E0 t) := by
  obtain ⟨f, fd, ps, F, hm, kp, b⟩ := c.ex
  exact pe_callG F (hr.mono hk) hgu hg hm kp b pass0 ha hdb he hpl
/-- a def that shows nothing, likewise -/
structure CalN (P : Program) (w : World) (K : PySem.W.Frag) (mg : Str → Option Value) (base : Heap) (k : Nat) (x : Str) (sp : Sp) : Prop where
  ex : ∃ (f : Addr) (fd : FuncData) (ps : List Str), FnOk P w K mg base CX0 k f fd ps sp ∧ mg x = some (.ref f) ∧ PySem.W.keepIn K (.ref f) = true ∧ Binds K fd ps []
theorem pe_cN {X : Cx} {k j : Nat} {x : Str} {sp : Sp} {p pos : Pos} {e : Expr} {es : List Expr} {t : TA} (c : CalN X.prog X.w X.K X.mg X.base k x sp) (hr : Room j X.A) (hk : k ≤ j) (hg : Gl X x) (ha : PA X (e :: es) t)
    (hdb : (x == ("__debug__" : Str)) = false := by decide) (he : starEach (e :: es) X.env = (false, eval e X.env) :: starEach es X.env := by rfl) (hpl : (backTo pos (starEach es X.env)).any (·.1) = false := by rfl) :
    PE X (.Call (.Name x p) (e :: es) [] pos) (tCall sp [] E0 t) := by
  obtain ⟨f, fd, ps, F, hm, kp, b⟩ := c.ex
  exact pe_call F (hr.mono hk) hg hm kp b .nil pass0 ha hdb he hpl
theorem hun {k : Nat} {A : Around} (r : Room k A) : A.units + 200 < cLine := by
  have := r.un
  omega
theorem hun64 {k : Nat} {A : Around} (r : Room k A) : A.units + 64 < cLine := by
  have := r.un
  omega
end Ev

/-! ### the end of a law row, the law's def promised only where nothing is being shown around -/
namespace Ev
open PySem PySem.Spec PyProof.Rows L2
/-- what a call from outside leaves -/
abbrev Left (s₁ : Shared) : Result → Shared → Prop := fun r s' => r = .ok (.ret (.bool true)) ∧ OldK s₁.heap s'.heap ∧ s'.os = s₁.os ∧ AllBare s'.gens
section
variable {P : Program} {w : World} {K : PySem.W.Frag} {mg mb : Str → Option Value} {k : Nat} {fa a : Addr} {fd : FuncData} {x : Str} {sp : Sp} {s₁ : Shared} {vs : List Value} {ns : List Int}
/-- over an abstract heap H that tracks the script alone, or nothing -/
theorem from_heap {H : Hp} (KX : K.In s₁.heap) (hns : s₁.heap.Ns mainGlobals mg) (hb : s₁.heap.Ns builtinsNs mb) (hbb : ∀ x : Str, x ≠ "__name__" → mb x = bootBuiltins x) (hlim : s₁.heap.NoLimit) (hg : s₁.gens = #[])
    (ha : s₁.heap.get? a = some { cls := .type "list", data := .seq vs.toArray }) (hr : Room k callerA)
    (F : ∀ base : Heap, K.In base → base.Ns mainGlobals mg → FnG P w K mg base CX0 k fa fd [x] sp) (hbind : ∀ (s : Shared) (u : Value), BindsTo s fd ⟨[u], []⟩ [(x, u)])
    (hO : Only H) (hok : HOk P w H s₁.heap) (only : ∀ b u, H b = some u → b = a) (hK : ∀ u, H a = some u → K.lookup a = none)
    (hsp : sp [.ref a] H (fun v _ => v = .bl true) fun _ _ _ => False) : codeAny (model P w) callerA (.call (.ref fa) ⟨[.ref a], []⟩) (Left s₁) s₁ := by
  have none_of : ∀ {b : Addr}, b ≠ a → H b = none := fun {b} nb => by
    cases q : H b with
    | none => rfl
    | some u => exact absurd (only b u q) nb
  -- a namespace is no list: it stays in the heap without what is tracked
  have keepNs : ∀ {b : Addr} {m : Str → Option Value}, s₁.heap.Ns b m → (hidT s₁.heap H).Ns b m := fun {b m} hm => by
    obtain ⟨o, es, ep, e1, e2, r⟩ := hm
    refine ⟨o, es, ep, hidT_get e1 (none_of fun z => ?_), e2, r⟩
    rw [z, ha] at e1
    have z1 := Option.some.inj e1
    rw [← z1] at e2
    exact absurd e2 (fun q => by cases q)
  have KB : K.In (hidT s₁.heap H) := fun b o e => by
    refine hidT_get (KX b o e) ?_
    cases q : H b with
    | none => rfl
    | some u =>
      have eb := only b u q
      rw [eb] at q e
      rw [hK u q] at e
      cases e
  have lim : (hidT s₁.heap H).NoLimit := by
    obtain ⟨mc, h1, h2⟩ := hlim
    exact ⟨mc, keepNs h1, h2⟩
  have env : Env0 P w K mg (hidT s₁.heap H) callerA [] s₁ H := {
    frames := rfl
    mod := ⟨KB, keepNs hns, ⟨mb, keepNs hb, hbb⟩, lim⟩
    bs := fun b o e => of_hidT e
    bsz := Nat.le_of_eq (hidT_size _ _)
    funs := trivial
    frf := fun b z => by
      have z' : b ∈ ([] : List Addr) := z
      cases z'
    hok := hok
    bare := .of_eq hg }
  refine codeAny_mono ((F _ KB (keepNs hns)).does callerA [] s₁ H ⟨[.ref a], []⟩ [.ref a] [.ref a] _ _ ⟨hr, rfl⟩ env (hbind s₁ (.ref a)) (Paired.cons rfl Paired.nil) hsp) fun r s' h => ?_
  rcases r with er | fl
  · exact False.elim h
  · rcases fl with _ | _ | _ | u
    · exact False.elim h
    · exact False.elim h
    · exact False.elim h
    · obtain ⟨v, H', os, bare, un, hok', r', q⟩ := h
      have q' : v = .bl true := q
      subst q'
      obtain rfl : u = Value.bool true := r'
      refine ⟨rfl, OldK.of_keep fun b o e => ?_, os, bare⟩
      rcases hO b with z | ⟨ob, xs, z⟩
      · refine un.keep b o e z (fun m => ?_) (fun m => ?_)
        · have m' : b ∈ ([] : List Addr) := m
          cases m'
        · cases m
      · have e1 : s₁.heap.get? b = some ob := (hok b _ z).1
        have e2 : s'.heap.get? b = some ob := (hok' b _ (un.frzs b ob _ z)).1
        rw [e] at e1
        rw [e2, ← Option.some.inj e1]
theorem law_callG (KX : K.In s₁.heap) (hns : s₁.heap.Ns mainGlobals mg) (hb : s₁.heap.Ns builtinsNs mb) (hbb : ∀ x : Str, x ≠ "__name__" → mb x = bootBuiltins x) (hlim : s₁.heap.NoLimit) (hg : s₁.gens = #[])
    (ha : s₁.heap.get? a = some { cls := .type "list", data := .seq vs.toArray }) (hi : IntsAre vs ns) (hl : ns.length ≤ sizeLine) (hr : Room k callerA)
    (F : ∀ base : Heap, K.In base → base.Ns mainGlobals mg → FnG P w K mg base CX0 k fa fd [x] sp) (hbind : ∀ (s : Shared) (u : Value), BindsTo s fd ⟨[u], []⟩ [(x, u)])
    (hsp : ∀ H : Hp, Only H → SqL K H a (ns.map V.int) → sp [.ref a] H (fun v _ => v = .bl true) fun _ _ _ => False) : codeAny (model P w) callerA (.call (.ref fa) ⟨[.ref a], []⟩) (Left s₁) s₁ := by
  have rv : Vals (ns.map V.int) vs := vals_ints hi
  cases hk : K.lookup a with
  | some o =>
    -- one of the module's own objects: nothing is tracked
    have e := KX a o hk
    rw [ha] at e
    cases e
    have n0 : ∀ b u, (fun _ => none : Hp) b = some u → False := fun b u z => by cases z
    refine from_heap (H := fun _ => none) KX hns hb hbb hlim hg ha hr F hbind (fun _ => .inl rfl) (fun b u z => (n0 b u z).elim) (fun b u z => (n0 b u z).elim) (fun u z => (n0 a u z).elim) (hsp _ (fun _ => .inl rfl) (.inr ⟨_, vs.toArray, _, hk, rfl, rfl, rfl, ?_, rv⟩))
    rw [List.size_toArray, hi.length]
    exact hl
  | none =>
    have at1 : ∀ b u, (upd (fun _ => none) a (.frz { cls := .type "list", data := .seq vs.toArray } (.lst (ns.map V.int)))) b = some u → b = a ∧ u = .frz { cls := .type "list", data := .seq vs.toArray } (.lst (ns.map V.int)) := fun b u z => by
      by_cases hb : b = a
      · subst hb
        rw [upd_same] at z
        exact ⟨rfl, (Option.some.inj z).symm⟩
      · rw [upd_ne hb] at z
        cases z
    have o1 : Only (upd (fun _ => none) a (.frz { cls := .type "list", data := .seq vs.toArray } (.lst (ns.map V.int)))) := fun b => by
      by_cases hb : b = a
      · subst hb
        exact .inr ⟨_, _, upd_same⟩
      · exact .inl (by rw [upd_ne hb])
    refine from_heap (H := upd (fun _ => none) a (.frz { cls := .type "list", data := .seq vs.toArray } (.lst (ns.map V.int)))) KX hns hb hbb hlim hg ha hr F hbind o1 (fun b u z => ?_) (fun b u z => (at1 b u z).1) (fun _ _ => hk) (hsp _ o1 (.inl (.inr ⟨_, upd_same⟩)))
    obtain ⟨eb, eu⟩ := at1 b u z
    subst eb
    subst eu
    exact ⟨ha, by rw [List.length_map]; exact hl, vs, _, rv, ha⟩
end
/-- the goal that the head leaves, from the law's promise -/
theorem walk_ofG {l : PySem.W.OpenLaw} {n k : Nat} {q : Program} {loose : List Str} {XP : (Str → Option Value) → Heap → Prop} {YP : World → Heap → Prop} {d : DefRec} {K : Params → PySem.W.Frag} {sp : PySem.W.Frag → Sp} {x : Str}
    (hn : l.most = some n) (hn2 : n ≤ sizeLine) (hdf : d.params.defaults = []) (hr : Room k callerA) (hY : ∀ (w : World) (h : Heap), YP w h → (K w.params).In h)
    (F : ∀ (w : World) (mg : Str → Option Value) (fa : Addr) (h : Heap), (K w.params).In h → h.Ns mainGlobals mg → mg d.name = some (.ref fa) →
      ∃ fd : FuncData, (∀ (s : Shared) (u : Value), BindsTo s fd ⟨[u], []⟩ [(x, u)]) ∧ ∀ base : Heap, (K w.params).In base → base.Ns mainGlobals mg → FnG l.prog w (K w.params) mg base CX0 k fa fd [x] (sp (K w.params)))
    (hsp : ∀ (K : PySem.W.Frag) (H : Hp) (a : Addr) (ns : List Int), ns.length ≤ n → SqL K H a (ns.map V.int) → sp K [.ref a] H (fun v _ => v = .bl true) fun _ _ _ => False) :
    PySem.W.WalkO q loose XP YP l.row.toRowW d [] (fun f vs => PySem.call f vs) := by
  refine Att.attach_call hn hdf fun w s₀ s₁ mg mb fa o pm cd doc a vs ns G Y ho hd hcd hmg hobj hints hlen hg => ?_
  have KX := hY w _ Y
  obtain ⟨fd, hb, hF⟩ := F w mg fa _ KX G.T.g hmg
  exact law_callG KX G.T.g G.T.b G.T.builtins G.T.nolimit hg hobj hints (Nat.le_trans hlen hn2) hr hF hb fun H _ hS => hsp (K w.params) H a ns hlen hS
end Ev

set_option maxHeartbeats 2000000
/-! An own exception with an own __init__ as a value: made by position or by one keyword, its field read, asked by isinstance. -/
namespace Ev
open PySem PySem.Spec PyProof.Rows L2 PySem.HandSPX
section
variable {M : Model} {prog : Program} {w : World} {A : Around} {E : Value → Shared → Prop} {R : Result → Shared → Prop} {h : Heap} {g : Array GenState} {d : Drawn} {t : Nat} {os : OsState}
variable {nm q : Str} {C N : Addr} {bs bm bmB : List Value} {hdct : Bool} {sn : List Str} {sub : List Value} {ab : Bool} {col : Option Bool} {dd : Option Addr} {k0 k1 k2 k3 k5 : Option Value} {B newId initId : String} {kw : List (Str × Value)}
/-- BaseException.__new__ takes any keywords -/
theorem kw_check_new (F : ExcBaseFacts B newId initId bmB) (hT : ∀ X : String, bm.contains (.type X) = bmB.contains (.type X)) {Q : Unit → Shared → Prop}
    (hC : h.get? C = some (excClassObj nm q C N bs bm hdct sn sub ab col dd k0 k1 k2 k3 k5 newId)) (hq : Q () ⟨h, g, d, t, os⟩) (hk : kw.length = 1) : wpAny M A (checkBuiltinCall newId ⟨[.ref C], kw⟩) Q E ⟨h, g, d, t, os⟩ := by
  obtain ⟨kv, rfl⟩ : ∃ kv, kw = [kv] := by
    match kw, hk with
    | [kv], _ => exact ⟨kv, rfl⟩
  have inB : (Value.ref C :: bm).contains (.type B) = true := by rw [List.contains_cons, hT, F.hasB, Bool.or_true]
  have noStar := F.noStar
  simp only [checkBuiltinCall, F.newKind, F.newSplit, F.newRow]
  repeat (first | refine wpAny_loadPart_at hC ?_ | (refine wpAny_isSubtype_exc hC ?_; rw [inB]) | refine wpAny_staticBase_exc hC ?_ | refine wpAny_madeBy_exc hC ?_ | simp only [bne_self_eq_false, Bool.false_eq_true, if_false] | wp_step)
  exact hq
theorem kw_new (F : ExcBaseFacts B newId initId bmB) (hT : ∀ X : String, bm.contains (.type X) = bmB.contains (.type X))
    (hC : h.get? C = some (excClassObj nm q C N bs bm hdct sn sub ab col dd k0 k1 k2 k3 k5 newId))
    (hq : R (.ok (.ret (.ref (h.objs.size + 1)))) ⟨(h.push (W.kdv_tup [])).push (excO C h.objs.size), g, d, t, os⟩) : codeAny (model prog w) A (.builtin newId ⟨[.ref C], kw⟩) R ⟨h, g, d, t, os⟩ := by
  have hends := F.ends
  have inB : (Value.ref C :: bm).contains (.type B) = true := by rw [List.contains_cons, hT, F.hasB, Bool.or_true]
  have inA : (Value.ref C :: bm).contains (.type "AttributeError") = false := by rw [List.contains_cons, hT, F.noAttr]; rfl
  have inN : (Value.ref C :: bm).contains (.type "NameError") = false := by rw [List.contains_cons, hT, F.noName]; rfl
  refine codeAny_builtinAt F.entry ?_
  unfold Builtin.«BaseException.__new__»
  refine PySem.wpAt_bind ?_
  show PySem.wpAt _ _ _ (stack >>= _) _ _ _
  refine PySem.wpAt_bind (PySem.wpAt_stack fun p below => PySem.wpAt_of_wpAny ?_)
  wp_walk
  refine PySem.wpAt_of_wpAny ?_
  rw [F.owner]
  repeat (first | with_reducible refine wpAny_madeHere_exc F.canon hC ?_ | with_reducible refine wpAny_loadPart_at hC ?_ | (with_reducible refine wpAny_isSubtype_exc hC ?_; first | rw [inB] | rw [inA] | rw [inN]) | wp_step)
  show R _ _
  rw [Heap.size_push]
  exact hq
theorem kw_check_call (hC : h.get? C = some (excClassObj nm q C N bs bm hdct sn sub ab col dd k0 k1 k2 k3 k5 newId)) (hk : kw.length = 1) {Q : Unit → Shared → Prop} (hq : Q () ⟨h, g, d, t, os⟩) :
    wpAny M A (checkBuiltinCall "type.__call__" ⟨[.ref C], kw⟩) Q E ⟨h, g, d, t, os⟩ := by
  obtain ⟨kv, rfl⟩ : ∃ kv, kw = [kv] := by
    match kw, hk with
    | [kv], _ => exact ⟨kv, rfl⟩
  have f3 := tc_sub
  have isT : (⟨h, g, d, t, os⟩ : Shared).TypeIs (.ref C) "type" := ⟨_, hC, rfl⟩
  simp only [checkBuiltinCall, tc_kind, tc_split]
  repeat (any_goals (first | assumption | with_reducible refine wpAny_loadPart_at hC ?_ | with_reducible refine wpAny_onRaise ?_ | with_reducible refine wpAny_map ?_ | wp_step))
theorem kw_type_call (F : ExcBaseFacts B newId initId bmB) (hT : ∀ X : String, bm.contains (.type X) = bmB.contains (.type X)) {fI : Addr} {Q : PySem.Fin → Shared → Prop} (hk : kw.length = 1)
    (hC : h.get? C = some (excClassObj nm q C N bs bm hdct sn sub ab col dd k0 k1 k2 k3 k5 newId))
    (hi : W.Looks (model prog w) h (typeLookup (.ref C) "__init__") (some (.ref fI))) (hb : ∀ self, W.Looks (model prog w) h (bindSpecial (.ref fI) self) (.ref fI, [self]))
    (hq : codeAny (model prog w) A (.call (.ref fI) ⟨[.ref (h.objs.size + 1)], kw⟩)
      (fun r s' => match r with | .ok (.ret v) => v = .none ∧ Q (.done (.ret (.ref (h.objs.size + 1)))) s' | .ok _ => False | .error e => E e s')
      ⟨(h.push (W.kdv_tup [])).push (excO C h.objs.size), g, d, t, os⟩) :
    wpAny (model prog w) A (Builtin.«type.__call__» ⟨[.ref C], kw⟩) Q E ⟨h, g, d, t, os⟩ := by
  repeat (first | with_reducible refine wpAny_loadPart_at hC ?_ | with_reducible refine wpAny_madeBy_exc hC ?_ | wp_step)
  refine codeAny_call_builtin_code (Code.quiet_builtin _ F.quiet) (kw_check_new F hT hC ?_ hk)
  refine kw_new F hT hC ?_
  show wpAny _ _ _ _ _ _
  have up : ∀ b o, h.get? b = some o → ((h.push (W.kdv_tup [])).push (excO C h.objs.size)).get? b = some o := fun b o e => Heap.get?_push_of_some _ (Heap.get?_push_of_some _ e)
  have hC2 := up _ _ hC
  have hnew : ((h.push (W.kdv_tup [])).push (excO C h.objs.size)).get? (h.objs.size + 1) = some (excO C h.objs.size) := by heap_get
  have inC : (Value.ref C :: bm).contains (.ref C) = true := by simp
  have i1 := hi.keeps up
  have b1 := (hb (.ref (h.objs.size + 1))).keeps up
  unfold isInstance
  repeat (first | with_reducible refine wpAny_loadPart_at hnew ?_ | (with_reducible refine wpAny_isSubtype_exc hC2 ?_; rw [inC]) | wp_step)
  show wpAny _ _ (typeLookup (.ref C) _) _ _ _
  refine i1.at ?_
  refine wpAny_holding (wpAny_bind (b1.at ?_))
  refine wpAny_bind (wpAny_call (codeAny_mono hq fun r s' z => ?_))
  rcases r with e | (_ | _ | _ | v)
  · exact z
  · exact z.elim
  · exact z.elim
  · exact z.elim
  · obtain ⟨rfl, z⟩ := z
    first
      | exact wpAny_pure (wpAny_pure z)
      | (wp_walk; exact z)
/-- C(n = v), C an own exception class with an own __init__ -/
theorem kw_call (F : ExcBaseFacts B newId initId bmB) (hT : ∀ X : String, bm.contains (.type X) = bmB.contains (.type X)) {fI : Addr} (hk : kw.length = 1)
    (hC : h.get? C = some (excClassObj nm q C N bs bm hdct sn sub ab col dd k0 k1 k2 k3 k5 newId))
    (hi : W.Looks (model prog w) h (typeLookup (.ref C) "__init__") (some (.ref fI))) (hb : ∀ self, W.Looks (model prog w) h (bindSpecial (.ref fI) self) (.ref fI, [self]))
    (hq : codeAny (model prog w) (A.under (.builtin "type.__call__" ⟨[.ref C], kw⟩)) (.call (.ref fI) ⟨[.ref (h.objs.size + 1)], kw⟩) (W.InitBack (h.objs.size + 1) R)
      ⟨(h.push (W.kdv_tup [])).push (excO C h.objs.size), g, d, t, os⟩) : codeAny (model prog w) A (.call (.ref C) ⟨[], kw⟩) R ⟨h, g, d, t, os⟩ := by
  have f1 := tc_lookup
  have f2 := tc_bind (.ref C)
  have isT : (⟨h, g, d, t, os⟩ : Shared).TypeIs (.ref C) "type" := ⟨_, hC, rfl⟩
  refine codeAny_of_tree ?_
  show wpAny _ _ (callAny (.ref C) _) _ _ _
  repeat (any_goals (first | assumption | with_reducible refine wpAny_loadPart_at hC ?_ | wp_step))
  refine ⟨rfl, ?_⟩
  refine codeAny_call_builtin_at (Code.quiet_builtin _ (by decide +kernel)) entry_typeCall (kw_check_call hC hk (kw_type_call F hT hk hC hi hb ?_))
  refine codeAny_mono hq fun r s' z => ?_
  rcases r with e | (_ | _ | _ | v) <;> exact z
end
end Ev

set_option maxHeartbeats 2000000
/-! The rules for such a value. -/
namespace Ev
open PySem PySem.Spec PyProof.Rows L2 PySem.HandSPX
/-- C(e), C(n = e): C an own exception class, its __init__ keeping sp -/
def tMkV (C : Addr) (sp : Sp) (ta : TA) : TE := fun σ H Q => ta σ H fun vs H1 => ∃ y, vs = [y] ∧ ∀ a, H1 a = none → sp [.ref a, y] (upd H1 a (exo a C none)) (fun v H2 => v = .non ∧ Q (.ref a) H2) (fun _ _ _ => False)
section
variable {X : Cx} {CX : CXT} {k : Nat} {C fI : Addr} {fd : FuncData} {ps : List Str} {sp : Sp} {x : Str} {p pos : Pos} {e : Expr} {es : List Expr} {ta : TA} {kws : List Keyword} {n : Str}
/-- what follows the call of __init__ -/
theorem mkv_end {pins : List (Addr × Obj)} {σ : L2.St} {H : Hp} {s : Shared} {a : Addr} {Q : VK} {r : Result} {s' : Shared} {E : XK} (I : Inv X pins σ H s) (hx : Passes CX X (fun _ _ _ => False))
    (hq : CR CX X.stack X.prog X.w H s (fun v H2 => v = .non ∧ Q (.ref a) H2) (fun _ _ _ => False) r s') :
    PySem.W.InitBack a (fun r s2 => match r with | .ok (.ret u) => EP X pins σ Q u s2 | .ok _ => False | .error er => X.xe er s2) r s' := by
  rcases r with er | (_ | _ | _ | u)
  · exact hx pins σ H s er s' I hq
  · exact False.elim hq
  · exact False.elim hq
  · exact False.elim hq
  · obtain ⟨v, H2, I2, rv, ev, q⟩ := I.after hq
    subst ev
    exact ⟨rv, .ref a, H2, I2, rfl, q⟩
theorem pe_oexV (T : OexC X.K C) (iC : PySem.W.findIn X.K (.ref C) "__init__" = some (some (.ref fI))) (tI : PySem.W.typeIn X.K (.ref fI) = some (.type "function"))
    (F1 : FnOk X.prog X.w X.K X.mg X.base CX k fI fd ps sp) (hr : Room (k + 1) X.A) (hb : Binds X.K fd ps []) (hx : Passes CX X (fun _ _ _ => False)) (hg : Gl X x) (hm : X.mg x = some (.ref C)) (ha : PA X (e :: es) ta)
    (hdb : (x == ("__debug__" : Str)) = false := by decide) (he : starEach (e :: es) X.env = (false, eval e X.env) :: starEach es X.env := by rfl) (hpl : (backTo pos (starEach es X.env)).any (·.1) = false := by rfl) :
    PE X (.Call (.Name x p) (e :: es) [] pos) (tMkV C sp ta) := ⟨fun pins s σ H Q I h => by
  obtain ⟨nm, q, N, bs, bm, sn, sub, ab, col, dd, k0, k1, k2, k3, k5, hC, hbm⟩ := T.cls
  refine wpAny_Call_Name_kw (ld_glob I hg hm ?_ hdb)
  refine PySem.W.callWith_K (h₀ := X.base) I.ok.mod.kin T.kC (thn (ha.run pos pins s σ H _ I h) fun us s1 got => ?_) he hpl
  obtain ⟨vs, H1, I1, r1, y, rfl, q1⟩ := got
  refine ⟨I1.kIn, ?_⟩
  obtain ⟨hp, g, dr, tk, os⟩ := s1
  have up : ∀ b o, hp.get? b = some o → ((hp.push (PySem.W.kdv_tup us)).push (excO C hp.objs.size)).get? b = some o := fun b o z => Heap.get?_push_of_some _ (Heap.get?_push_of_some _ z)
  have hnew : ((hp.push (PySem.W.kdv_tup us)).push (excO C hp.objs.size)).get? (hp.objs.size + 1) = some (excO C hp.objs.size) := by heap_get
  have I2 : Inv X pins σ (upd H1 (hp.objs.size + 1) (exo (hp.objs.size + 1) C none)) ⟨(hp.push (PySem.W.kdv_tup us)).push (excO C hp.objs.size), g, dr, tk, os⟩ :=
    I1.laid (t' := tk) (a := hp.objs.size + 1) (o := exo (hp.objs.size + 1) C none) (h' := (hp.push (PySem.W.kdv_tup us)).push (excO C hp.objs.size)) up (Nat.le_succ _) (exo_ok hnew)
  have hsp := q1 (hp.objs.size + 1) (I1.hok.fresh (Nat.le_succ _))
  have r2 : Vals [V.ref (hp.objs.size + 1), y] (Value.ref (hp.objs.size + 1) :: us) := .cons rfl r1
  have hl : (Value.ref (hp.objs.size + 1) :: us ++ []).length = ps.length := by
    rw [List.append_nil, ← F1.len _ _ _ _ hsp, r2.length]
  have hb1 := hb ⟨(hp.push (PySem.W.kdv_tup us)).push (excO C hp.objs.size), g, dr, tk, os⟩ (Value.ref (hp.objs.size + 1) :: us) I2.kIn hl
  rw [List.append_nil] at hb1
  have hus : us.length ≤ sizeLine := by
    rw [← Paired.length r1, sizeLine_eq]
    exact (by decide : 1 ≤ 16777216)
  show wpAny _ _ (call (.ref C) us) _ _ _
  refine wpAny_call (call_own F.excBase_ValueError (fun Y => refsVE_contains Y bm hbm) (I1.kIn _ _ hC) (PySem.W.looks_findIn I1.kIn iC) (fun self => PySem.W.bind_fn I1.kIn self tI) hus ?_)
  refine codeAny_mono (F1.run _ X.stack _ _ ⟨Value.ref (hp.objs.size + 1) :: us, []⟩ (Value.ref (hp.objs.size + 1) :: us) _ _ (fun _ _ _ => False) (hr.make C us []) (I2.env0.make C us []) hb1 r2 hsp) fun r s' hq => ?_
  have z := mkv_end (E := fun _ _ _ => False) I2 hx hq
  rcases r with er | (_ | _ | _ | u) <;> exact z⟩
/-- C(n = e) -/
theorem pe_oexK (T : OexC X.K C) (iC : PySem.W.findIn X.K (.ref C) "__init__" = some (some (.ref fI))) (tI : PySem.W.typeIn X.K (.ref fI) = some (.type "function"))
    (F1 : FnOk X.prog X.w X.K X.mg X.base CX k fI fd ps sp) (hr : Room (k + 1) X.A) (hb : ∀ (s : Shared) (a u : Value), BindsTo s fd ⟨[a], [(n, u)]⟩ (ps.zip [a, u])) (hx : Passes CX X (fun _ _ _ => False)) (hg : Gl X x) (hm : X.mg x = some (.ref C)) (hkw : PK X kws ta)
    (hall : (backToKw pos (keywordEach kws X.env)).all (·.1.isSome) = true := by rfl) (hks : (backToKw pos (keywordEach kws X.env)).filterMap (·.1) = [n] := by rfl) (hdb : (x == ("__debug__" : Str)) = false := by decide)
    (hpl : ((backTo pos (starEach [] X.env)).any (·.1) || (backToKw pos (keywordEach kws X.env)).any (·.1.isNone)) = false := by rfl) :
    PE X (.Call (.Name x p) [] kws pos) (tMkV C sp ta) := ⟨fun pins s σ H Q I h => by
  obtain ⟨nm, q, N, bs, bm, sn, sub, ab, col, dd, k0, k1, k2, k3, k5, hC, hbm⟩ := T.cls
  refine wpAny_Call_Name_kw (ld_glob I hg hm ?_ hdb)
  refine PySem.W.callWith_KW0 (h₀ := X.base) I.ok.mod.kin T.kC hall ?_ hpl
  refine thn (hkw.run pos pins s σ H _ I h) fun us s1 got => ?_
  obtain ⟨vs, H1, I1, r1, y, rfl, q1⟩ := got
  refine ⟨I1.kIn, ?_⟩
  rw [hks]
  obtain ⟨u, rfl, ru⟩ := vals1 r1
  obtain ⟨hp, g, dr, tk, os⟩ := s1
  have up : ∀ b o, hp.get? b = some o → ((hp.push (PySem.W.kdv_tup [])).push (excO C hp.objs.size)).get? b = some o := fun b o z => Heap.get?_push_of_some _ (Heap.get?_push_of_some _ z)
  have hnew : ((hp.push (PySem.W.kdv_tup [])).push (excO C hp.objs.size)).get? (hp.objs.size + 1) = some (excO C hp.objs.size) := by heap_get
  have I2 : Inv X pins σ (upd H1 (hp.objs.size + 1) (exo (hp.objs.size + 1) C none)) ⟨(hp.push (PySem.W.kdv_tup [])).push (excO C hp.objs.size), g, dr, tk, os⟩ :=
    I1.laid (t' := tk) (a := hp.objs.size + 1) (o := exo (hp.objs.size + 1) C none) (h' := (hp.push (PySem.W.kdv_tup [])).push (excO C hp.objs.size)) up (Nat.le_succ _) (exo_ok hnew)
  have hsp := q1 (hp.objs.size + 1) (I1.hok.fresh (Nat.le_succ _))
  have r2 : Vals [V.ref (hp.objs.size + 1), y] [Value.ref (hp.objs.size + 1), u] := .cons rfl (.cons ru .nil)
  show wpAny _ _ (call (.ref C) [] [(n, u)]) _ _ _
  refine wpAny_call (kw_call F.excBase_ValueError (fun Y => refsVE_contains Y bm hbm) rfl (I1.kIn _ _ hC) (PySem.W.looks_findIn I1.kIn iC) (fun self => PySem.W.bind_fn I1.kIn self tI) ?_)
  refine codeAny_mono (F1.run _ X.stack _ _ ⟨[Value.ref (hp.objs.size + 1)], [(n, u)]⟩ [Value.ref (hp.objs.size + 1), u] _ _ (fun _ _ _ => False) (hr.make C [] [(n, u)]) (I2.env0.make C [] [(n, u)]) (hb _ _ _) r2 hsp) fun r s' hq => ?_
  have z := mkv_end (E := fun _ _ _ => False) I2 hx hq
  rcases r with er | (_ | _ | _ | v) <;> exact z⟩
/-- what the written part says of the class, so that an object of it may be read and asked -/
structure ExV (K : PySem.W.Frag) (C : Addr) : Prop where
  ga : PySem.W.findIn K (.ref C) "__getattribute__" = some (some (.builtin "BaseException.__getattribute__"))
  gg : PySem.W.findIn K (.ref C) "__getattr__" = some none
  ex : PySem.W.subIn K (.ref C) (.type "BaseException") = some true
  hd : PySem.W.hasDictIn K C = true
  ac : PySem.W.findIn K (.ref C) "__class__" = some (some (.builtin "object.__class__"))
  sn : PySem.W.specialIn K (.builtin "object.__class__") "__get__" = some (some (.builtin "getset_descriptor.__get__"))
  tk : PySem.W.takesIn K (.builtin "object.__class__") = some true
  mr : PySem.W.mroIn K C (.type "object") = some true
/-- e.f of such an object, f in its own dict -/
def tXv (K : PySem.W.Frag) (f : Str) (te : TE) : TE := fun σ H Q => te σ H fun x H1 => ∃ (a C dx : Addr) (fs : List (Str × V)) (v : V), x = .ref a ∧ H1 a = some (exo a C (some dx)) ∧ H1 dx = some (exd dx fs) ∧ ExV K C ∧ PySem.W.findIn K (.ref C) f = some none ∧ fs.lookup f = some v ∧ Q v H1
theorem pe_xv {o : Expr} {to : TE} {f : Str} (he : PE X o to) (hb : attributeBase o f X.env (eval o X.env) = eval o X.env := by rfl) : PE X (.Attribute o f pos) (tXv X.K f to) := ⟨fun pins s σ H Q I h => by
  refine attr_of hb (thn (he.run pins s σ H _ I h) fun u s1 got => ?_)
  obtain ⟨x, H1, I1, rx, a, C, dx, fs, v, rfl, ea, ed, T, hno, hl, q⟩ := got
  obtain rfl : u = Value.ref a := rx
  obtain ⟨t1, ho⟩ := exo_at I1.hok ea
  obtain ⟨mA, hns, hrel⟩ := exd_at I1.hok ed
  obtain ⟨od, hod, look⟩ := lookIn_ns hns
  obtain ⟨u, hu, ru⟩ := RelO.some_of (v := v) (o := mA f) (by rw [← hl]; exact hrel f)
  have J : PySem.W.InstAt s1.heap a { cls := .ref C, dict := some dx, data := .fields #[.ref t1, .none, .none, .none, .bool false, .none] } C (some od) := ⟨ho, rfl, rfl, hod⟩
  exact exc_get I1.kIn J T.ga T.gg T.ex (PySem.W.findObj_own T.hd hno rfl (by rw [look, hu])) (handed_of ru) ⟨v, H1, I1.tok _, ru, q⟩⟩
/-- isinstance(e, c) of such an object -/
def rIsV (K : PySem.W.Frag) : List V → Hp → VK → Prop := fun xs H Q => ∃ (a C dx : Addr) (fs : List (Str × V)) (c : V) (u : Value) (b : Bool), xs = [.ref a, c] ∧ ClsV c u ∧ H a = some (exo a C (some dx)) ∧ H dx = some (exd dx fs) ∧ ExV K C ∧ PySem.W.kitOne K (.ref C) u = some b ∧ Q (.bl b) H
/-- isinstance(e, (c1, c2, ..)) -/
def rIsVT (K : PySem.W.Frag) : List V → Hp → VK → Prop := fun xs H Q => ∃ (a C dx tp : Addr) (fs : List (Str × V)) (cs : List V) (us : List Value) (b : Bool), xs = [.ref a, .ref tp] ∧ H tp = some (.tup cs) ∧ Paired ClsV cs us ∧ H a = some (exo a C (some dx)) ∧ H dx = some (exd dx fs) ∧ ExV K C ∧
  PySem.W.kitAny K (.ref C) us = some b ∧ Q (.bl b) H
theorem ExV.kit {K : PySem.W.Frag} {C a : Addr} {ox : Obj} {od : Option Obj} (T : ExV K C) : PySem.W.KitX K (.ref a) (.ref C) (fun h => PySem.W.InstAt h a ox C od) := by
  obtain ⟨cd, hc, _⟩ := PySem.W.any_some T.hd
  exact PySem.W.kitx_exc (by rw [hc]; rfl) T.ga T.gg T.ex T.ac T.sn T.tk T.mr
theorem inst_of {pins : List (Addr × Obj)} {σ : L2.St} {H : Hp} {s : Shared} {a dx : Addr} {fs : List (Str × V)} (I : Inv X pins σ H s) (ea : H a = some (exo a C (some dx))) (ed : H dx = some (exd dx fs)) : ∃ ox od, PySem.W.InstAt s.heap a ox C (some od) := by
  obtain ⟨t1, ho⟩ := exo_at I.hok ea
  obtain ⟨mA, hns, _⟩ := exd_at I.hok ed
  obtain ⟨od, hod, _⟩ := lookIn_ns hns
  exact ⟨_, od, ho, rfl, rfl, hod⟩
theorem call_isV : CallR X (.builtin "isinstance") (rIsV X.K) := by
  intro pins s σ H xs us Q I r h
  obtain ⟨a, C, dx, fs, c, u, b, rfl, k, ea, ed, T, e, q⟩ := h
  obtain ⟨u1, u2, rfl, r1, r2⟩ := vals2 r
  obtain rfl : u1 = Value.ref a := r1
  have e2 := k.eq r2
  subst e2
  obtain ⟨ox, od, J⟩ := inst_of I ea ed
  exact PySem.W.kia_one T.kit I.kIn J e (fun z => nomatch z) fun tk => ⟨.bl b, H, I.tok tk, rfl, q⟩
theorem call_isVT : CallR X (.builtin "isinstance") (rIsVT X.K) := by
  intro pins s σ H xs us Q I r h
  obtain ⟨a, C, dx, tp, fs, cs, vs, b, rfl, etp, k, ea, ed, T, e, q⟩ := h
  obtain ⟨u1, u2, rfl, r1, r2⟩ := vals2 r
  obtain rfl : u1 = Value.ref a := r1
  obtain rfl : u2 = Value.ref tp := r2
  obtain ⟨ox, od, J⟩ := inst_of I ea ed
  obtain ⟨_, its, rv, ob, ho, hc, n, hd⟩ := (show ObjOk X.prog X.w H s.heap tp (.tup cs) from I.hok tp _ etp)
  have ei := ClsV.all k rv
  subst ei
  obtain ⟨oc, od', oda, osl⟩ := ob
  dsimp only at hc hd
  subst hc hd
  exact PySem.W.kia_tup T.kit I.kIn J ho e (fun z => nomatch z) fun tk => ⟨.bl b, H, I.tok tk, rfl, q⟩
end
end Ev

set_option maxHeartbeats 2000000
/-! Readings step by step: one small lemma a construct, tried by one word. -/
namespace Ev
open PySem PySem.Spec PyProof.Rows L2
section
variable {K : PySem.W.Frag} {σ : L2.St} {H : Hp} {Q : VK} {D : Ends} {ta tb tc te : TE} {x y v : V} {xs ys : List V} {t u : TS} {a p l b : Addr} {o o' : HO} {i j : Int}
/-! heaps -/
theorem lk_new {u : HO} (h : H a = some u) (hp : H p = none) : upd H p o a = some u := by
  rw [upd_ne (ne_of_none h hp)]
  exact h
theorem lk_ne {u : HO} (ne : a ≠ p) (h : H a = some u) : upd H p o a = some u := by
  rw [upd_ne ne]
  exact h
theorem no_new (h : H a = none) (ne : a ≠ p) : upd H p o a = none := by
  rw [upd_ne ne]
  exact h
theorem no_back (h : upd H p o a = none) : H a = none := by
  by_cases e : a = p
  · subst e
    rw [upd_same] at h
    cases h
  · rw [upd_ne e] at h
    exact h
theorem ne_back (h : upd H p o a = none) : a ≠ p := fun e => by
  subst e
  rw [upd_same] at h
  cases h
theorem upd_none : upd H p o a = none ↔ a ≠ p ∧ H a = none := ⟨fun h => ⟨ne_back h, no_back h⟩, fun h => no_new h.2 h.1⟩
theorem lk_new' {u : HO} (hp : H p = none) (h : H a = some u) : upd H p o a = some u := lk_new h hp
/-! values -/
theorem rd_var {i : Nat} (h : σ[i]? = some (some v)) (q : Q v H) : tVar i σ H Q := ⟨v, h, q⟩
theorem rd_c (q : Q v H) : tC v σ H Q := q
theorem rd_op {r : R2} (h : ta σ H fun x H1 => tb σ H1 fun y H2 => r x y H2 Q) : tOp r ta tb σ H Q := h
theorem rd_un {r : V → Hp → VK → Prop} (h : ta σ H fun x H1 => r x H1 Q) : tUn r ta σ H Q := h
theorem rd_rI0 {g : Int → Int → V} (q : Q (g i j) H) : rI0 g (.int i) (.int j) H Q := ⟨i, j, rfl, rfl, q⟩
theorem rd_rI {C : Int → Int → Prop} {g : Int → Int → V} (c : C i j) (q : Q (g i j) H) : rI C g (.int i) (.int j) H Q := ⟨i, j, rfl, rfl, c, q⟩
theorem rd_rU {g : Int → V} (q : Q (g i) H) : rU g (.int i) H Q := ⟨i, rfl, q⟩
theorem rd_ixL (h : SqL K H a xs) (e : atI xs i = some v) (q : Q v H) : rIxL K (.ref a) (.int i) H Q := ⟨a, xs, i, v, rfl, rfl, h, e, q⟩
theorem rd_ixT (h : SqT K H a xs) (e : atI xs i = some v) (q : Q v H) : rIxT K (.ref a) (.int i) H Q := ⟨a, xs, i, v, rfl, rfl, h, e, q⟩
theorem rd_eq (h : scal x y = true) (q : Q (.bl (decide (x = y))) H) : rEq x y H Q := ⟨h, q⟩
theorem rd_ne (h : scal x y = true) (q : Q (.bl (!decide (x = y))) H) : rNe x y H Q := ⟨h, q⟩
theorem rd_tup {ta : TA} (h : ta σ H fun xs H1 => xs.length ≤ sizeLine ∧ ∀ p, H1 p = none → Q (.ref p) (upd H1 p (.tup xs))) : tTup ta σ H Q := h
theorem rd_lst {ta : TA} (h : ta σ H fun xs H1 => xs.length ≤ sizeLine ∧ ∀ p, H1 p = none → Q (.ref p) (upd H1 p (.lst xs))) : tLst ta σ H Q := h
theorem rd_size {n : Nat} {A : Prop} (hn : n ≤ 16777216) (h : A) : n ≤ sizeLine ∧ A := ⟨by rw [sizeLine_eq]; exact hn, h⟩
theorem rd_nil {Q : List V → Hp → Prop} (q : Q [] H) : tNil σ H Q := q
theorem rd_cons {tr : TA} {Q : List V → Hp → Prop} (h : ta σ H fun x H1 => tr σ H1 fun xs H2 => Q (x :: xs) H2) : tCons ta tr σ H Q := h
theorem rd_cb {r : List V → Hp → VK → Prop} {t : TA} (h : t σ H fun vs H1 => r vs H1 Q) : tCB r t σ H Q := h
theorem rd_call {sp : Sp} {dvs : List V} {E : XK} {t : TA} (h : t σ H fun vs H1 => sp (vs ++ dvs) H1 Q E) : tCall sp dvs E t σ H Q := h
theorem rd_sl {r : V → Option Int → Option Int → Hp → VK → Prop} {tl th : TO} (h : te σ H fun x H1 => tl σ H1 fun l H2 => th σ H2 fun u H3 => r x l u H3 Q) : tSl r te tl th σ H Q := h
theorem rd_no {Q : Option Int → Hp → Prop} (q : Q none H) : tNoPart σ H Q := q
theorem rd_part {Q : Option Int → Hp → Prop} (h : te σ H fun x H1 => ∃ i, x = .int i ∧ Q (some i) H1) : tPart te σ H Q := h
theorem rd_ex {Q : Int → Prop} (q : Q i) : ∃ j : Int, V.int i = .int j ∧ Q j := ⟨i, rfl, q⟩
theorem rd_slL {lo hi : Option Int} (h : SqL K H a xs) (q : ∀ p, H p = none → Q (.ref p) (upd H p (.lst (cutV xs lo hi)))) : rSlL K (.ref a) lo hi H Q := ⟨a, xs, rfl, h, q⟩
theorem rd_cat (h1 : H a = some (.lst xs)) (h2 : H b = some (.lst ys)) (hz : xs.length + ys.length ≤ 16777216) (q : ∀ p, H p = none → Q (.ref p) (upd H p (.lst (xs ++ ys)))) : rCat (.ref a) (.ref b) H Q :=
  ⟨a, b, xs, ys, rfl, rfl, h1, h2, by rw [sizeLine_eq]; exact hz, q⟩
theorem rd_ifE {c : TT} (h : c σ H fun k H1 => if k = true then ta σ H1 Q else tb σ H1 Q) : tIf c ta tb σ H Q := h
/-! tests -/
theorem rd_test {Q : Bool → Hp → Prop} (h : te σ H fun x H1 => ∃ k, x = .bl k ∧ Q k H1) : tTest te σ H Q := h
theorem rd_tB {Q : Bool → Hp → Prop} (h : te σ H fun x H1 => ∃ k, x = .bl k ∧ Q k H1) : tB te σ H Q := h
theorem rd_bl {c : Bool} {Q : Bool → Prop} (q : Q c) : ∃ k, V.bl c = .bl k ∧ Q k := ⟨c, rfl, q⟩
theorem rd_not {c : TT} {Q : Bool → Hp → Prop} (h : c σ H fun k H1 => Q (!k) H1) : tNot c σ H Q := h
theorem rd_and {c d : TT} {Q : Bool → Hp → Prop} (h : c σ H fun k H1 => if k = true then d σ H1 Q else Q false H1) : tAnd c d σ H Q := h
theorem rd_or {c d : TT} {Q : Bool → Hp → Prop} (h : c σ H fun k H1 => if k = true then Q true H1 else d σ H1 Q) : tOr c d σ H Q := h
theorem rd_notV (h : ta σ H fun x H1 => ∃ c, x = .bl c ∧ Q (.bl (!c)) H1) : tNotV ta σ H Q := h
theorem rd_andV (h : ta σ H fun x H1 => ∃ c, x = .bl c ∧ if c = true then tb σ H1 Q else Q (.bl false) H1) : tAndV ta tb σ H Q := h
theorem rd_orV (h : ta σ H fun x H1 => ∃ c, x = .bl c ∧ if c = true then Q (.bl true) H1 else tb σ H1 Q) : tOrV ta tb σ H Q := h
/-! statements -/
theorem rd_seq (h : t { D with nx := u D } σ H) : tSeq t u D σ H := h
theorem rd_next (h : D.nx σ H) : tNext D σ H := h
theorem rd_ret (h : te σ H D.rt) : tRet te D σ H := h
theorem rd_retN (h : D.rt .non H) : tRetN D σ H := h
theorem rd_if {c : TT} (h : c σ H fun k H1 => if k = true then t D σ H1 else u D σ H1) : tIfS c t u D σ H := h
theorem rd_drop (h : te σ H fun _ H1 => D.nx σ H1) : tDrop te D σ H := h
theorem rd_asg {g : TG} (h : te σ H fun x H1 => g x σ H1 D.nx) : tAsg te g D σ H := h
theorem rd_name {i : Nat} {Q : L2.St → Hp → Prop} (q : Q (σ.set i (some v)) H) : gName i v σ H Q := q
theorem rd_gtup {n : Nat} {g : TGs} {Q : L2.St → Hp → Prop} (h : SqT K H a xs) (e : xs.length = n) (q : g xs σ H Q) : gTup K n g (.ref a) σ H Q := ⟨a, xs, rfl, h, e, q⟩
theorem rd_gnil {Q : L2.St → Hp → Prop} (q : Q σ H) : gNil [] σ H Q := ⟨rfl, q⟩
theorem rd_gcons {g : TG} {gs : TGs} {Q : L2.St → Hp → Prop} (q : g v σ H fun σ' H' => gs xs σ' H' Q) : gCons g gs (v :: xs) σ H Q := ⟨v, xs, rfl, q⟩
theorem rd_gsub {to ti : TE} {s : TSet} {Q : L2.St → Hp → Prop} (h : to σ H fun o H1 => ti σ H1 fun i H2 => s o i v H2 fun H3 => Q σ H3) : gSub to ti s v σ H Q := h
theorem rd_setL {k : Nat} {Q : Hp → Prop} (h : H a = some (.lst xs)) (e : ixN xs.length i = some k) (q : Q (upd H a (.lst (xs.set k v)))) : rSetL (.ref a) (.int i) v H Q := ⟨a, xs, i, k, rfl, rfl, h, e, q⟩
/-! ifs -/
theorem rd_ite {p : Prop} [Decidable p] {A B : Prop} (h1 : p → A) (h2 : ¬ p → B) : if decide p = true then A else B := by
  by_cases h : p
  · rw [if_pos (decide_eq_true h)]
    exact h1 h
  · rw [if_neg (by rw [decide_eq_false h]; exact Bool.false_ne_true)]
    exact h2 h
theorem rd_iteN {p : Prop} [Decidable p] {A B : Prop} (h1 : ¬ p → A) (h2 : p → B) : if (!decide p) = true then A else B := by
  by_cases h : p
  · rw [if_neg (by rw [decide_eq_true h]; exact Bool.false_ne_true)]
    exact h2 h
  · rw [if_pos (by rw [decide_eq_false h]; rfl)]
    exact h1 h
theorem rd_T {A B : Prop} (h : A) : if true = true then A else B := by
  rw [if_pos rfl]
  exact h
theorem rd_F {A B : Prop} (h : B) : if false = true then A else B := by
  rw [if_neg Bool.false_ne_true]
  exact h
theorem rd_True {A B : Prop} {i : Decidable True} (h : A) : @ite Prop True i A B := by
  rw [if_pos trivial]
  exact h
theorem rd_False {A B : Prop} {i : Decidable False} (h : B) : @ite Prop False i A B := by
  rw [if_neg (fun z => z)]
  exact h
/-! built-ins -/
theorem rd_int {A : Int → Prop} {B : Prop} (q : A i) : (∃ j, [V.int i] = [.int j] ∧ A j) ∨ B := .inl ⟨i, rfl, q⟩
theorem rd_intB {c : Bool} {A : Int → Prop} (q : A (if c then 1 else 0)) : (∃ j, [V.bl c] = [.int j] ∧ A j) ∨ ∃ k, [V.bl c] = [.bl k] ∧ A (if k then 1 else 0) := .inr ⟨c, rfl, q⟩
theorem rd_one {A : Int → Prop} (q : A i) : ∃ j, [V.int i] = [.int j] ∧ A j := ⟨i, rfl, q⟩
theorem rd_two {A : Int → Int → Prop} (q : A i j) : ∃ k l, [V.int i, V.int j] = [.int k, .int l] ∧ A k l := ⟨i, j, rfl, q⟩
theorem rd_len {A : List V → Prop} (h : SqL K H a xs) (q : A xs) : ∃ p zs, [V.ref a] = [.ref p] ∧ (SqL K H p zs ∨ SqT K H p zs) ∧ A zs := ⟨a, xs, rfl, .inl h, q⟩
theorem rd_lenT {A : List V → Prop} (h : SqT K H a xs) (q : A xs) : ∃ p zs, [V.ref a] = [.ref p] ∧ (SqL K H p zs ∨ SqT K H p zs) ∧ A zs := ⟨a, xs, rfl, .inr h, q⟩
theorem at_int {ns : List Int} {i : Int} (h0 : 0 ≤ i) (h : i < (ns.length : Int)) : ∃ z, atI (ns.map V.int) i = some (.int z) := by
  obtain ⟨k, rfl⟩ : ∃ k : Nat, i = (k : Int) := ⟨i.toNat, by omega⟩
  have hk : k < ns.length := by omega
  exact ⟨ns[k], atI_nat (by rw [List.getElem?_map, List.getElem?_eq_getElem hk]; rfl)⟩
theorem pow_cond {i j : Int} (h0 : 0 ≤ j) (h3 : j ≤ 1000) (h1 : -10000000000000000000000000000000000000000 < i) (h2 : i < 10000000000000000000000000000000000000000) : CPowW i j := by
  have e : (10000000000000000000000000000000000000000 : Nat) < 2 ^ 2000 := by decide +kernel
  exact ⟨h0, h3, by omega⟩
/-! loops and comprehensions: first what they go over, then the turns -/
theorem rd_rng1 {ta : TA} {R : It → Hp → Prop} (h : ta σ H fun vs H1 => ∃ j : Int, vs = [.int j] ∧ -(2 ^ 62) ≤ j ∧ j < 2 ^ 62 ∧ R (Itr 0 j.toNat) H1) : iRng1 ta σ H R := h
theorem rd_rg {A : Prop} (h1 : 0 ≤ i) (h2 : i ≤ 1000000000000) (q : A) : -(2 ^ 62) ≤ i ∧ i < 2 ^ 62 ∧ A := ⟨by omega, by omega, q⟩
theorem rd_overL {R : It → Hp → Prop} (h : te σ H fun x H1 => ∃ a, x = .ref a ∧ (∃ xs, SqL K H1 a xs) ∧ R (Itl K a) H1) : iList K te σ H R := h
theorem rd_overT {R : It → Hp → Prop} (h : te σ H fun x H1 => ∃ a, x = .ref a ∧ (∃ xs, SqT K H1 a xs) ∧ R (Itt K a) H1) : iTup K te σ H R := h
theorem rd_atL {A : Addr → Prop} (h : SqL K H a xs) (q : A a) : ∃ b, V.ref a = .ref b ∧ (∃ ys, SqL K H b ys) ∧ A b := ⟨a, rfl, ⟨xs, h⟩, q⟩
theorem rd_atT {A : Addr → Prop} (h : SqT K H a xs) (q : A a) : ∃ b, V.ref a = .ref b ∧ (∃ ys, SqT K H b ys) ∧ A b := ⟨a, rfl, ⟨xs, h⟩, q⟩
theorem rd_forA {ta : TA} {g : TG} {tb : TS} (h : iRng1 ta σ H fun J H1 => tFor (fun _ H' R => R J H') g tb D σ H1) : tFor (iRng1 ta) g tb D σ H := h
theorem rd_forB {g : TG} {tb : TS} (h : iList K te σ H fun J H1 => tFor (fun _ H' R => R J H') g tb D σ H1) : tFor (iList K te) g tb D σ H := h
theorem rd_forC {g : TG} {tb : TS} (h : iTup K te σ H fun J H1 => tFor (fun _ H' R => R J H') g tb D σ H1) : tFor (iTup K te) g tb D σ H := h
theorem rd_lcA {ta : TA} {g : TG} {tt : TT} {vs : List Nat} (h : iRng1 ta σ H fun J H1 => tLc (fun _ H' R => R J H') g tt te vs σ H1 Q) : tLc (iRng1 ta) g tt te vs σ H Q := h
theorem rd_lcB {tl : TE} {g : TG} {tt : TT} {vs : List Nat} (h : iList K tl σ H fun J H1 => tLc (fun _ H' R => R J H') g tt te vs σ H1 Q) : tLc (iList K tl) g tt te vs σ H Q := h
theorem rd_lcC {tl : TE} {g : TG} {tt : TT} {vs : List Nat} (h : iTup K tl σ H fun J H1 => tLc (fun _ H' R => R J H') g tt te vs σ H1 Q) : tLc (iTup K tl) g tt te vs σ H Q := h
theorem rd_forR {lo : Int} {n : Nat} {g : TG} {tb : TS} (Pv : Nat → L2.St → Hp → Prop) (h0 : Pv 0 σ H) (hs : ∀ i σ H, i < n → Pv i σ H → g (.int (lo + i)) σ H fun σ2 H2 => tb { D with nx := Pv (i + 1), ct := Pv (i + 1), bk := D.nx } σ2 H2)
    (hd : ∀ σ H, Pv n σ H → D.nx σ H) : tFor (fun _ H' R => R (Itr lo n) H') g tb D σ H := for_range Pv h0 hs hd
theorem rd_forL {g : TG} {tb : TS} (Pv : Nat → L2.St → Hp → Prop) (h0 : Pv 0 σ H) (hl : ∀ i σ H, i ≤ xs.length → Pv i σ H → SqL K H a xs) (hs : ∀ i x σ H, xs[i]? = some x → Pv i σ H → g x σ H fun σ2 H2 => tb { D with nx := Pv (i + 1), ct := Pv (i + 1), bk := D.nx } σ2 H2)
    (hd : ∀ σ H, Pv xs.length σ H → D.nx σ H) : tFor (fun _ H' R => R (Itl K a) H') g tb D σ H := for_list Pv h0 hl hs hd
theorem rd_forT {g : TG} {tb : TS} (Pv : Nat → L2.St → Hp → Prop) (h0 : Pv 0 σ H) (hl : ∀ i σ H, i ≤ xs.length → Pv i σ H → SqT K H a xs) (hs : ∀ i x σ H, xs[i]? = some x → Pv i σ H → g x σ H fun σ2 H2 => tb { D with nx := Pv (i + 1), ct := Pv (i + 1), bk := D.nx } σ2 H2)
    (hd : ∀ σ H, Pv xs.length σ H → D.nx σ H) : tFor (fun _ H' R => R (Itt K a) H') g tb D σ H := for_tup Pv h0 hl hs hd
/-- [e for x in range(n)], e a value of the turn that makes nothing new -/
theorem rd_lcN {s n : Nat} (f : Nat → V) (hn : n ≤ 16777215) (he : ∀ (i : Nat) (H' : Hp) (Q' : VK), i < n → Q' (f i) H' → te ((σ.set s none).set s (some (.int (0 + i)))) H' Q')
    (q : ∀ l, H l = none → Q (.ref l) (upd H l (.lst ((List.range n).map f)))) : tLc (fun _ H' R => R (Itr 0 n) H') (gName s) tYes te [s] σ H Q := fun l hl => by
  have w1 : ∀ x : Option V, L2.wipe ((L2.wipe σ [s]).set s x) [s] = L2.wipe σ [s] := fun x => by
    show ((σ.set s none).set s x).set s none = σ.set s none
    rw [List.set_set, List.set_set]
  refine lc_range (fun i H' => H' = upd H l (.lst ((List.range i).map f))) rfl (fun i H' hi e => ?_) (fun H' e => ?_)
  · subst e
    refine ⟨w1 _, ?_⟩
    dsimp only [tYes]
    rw [if_pos rfl]
    refine he i _ _ hi ?_
    refine ⟨_, upd_same, ?_, ?_⟩
    · rw [List.length_map, List.length_range, sizeLine_eq]
      omega
    · rw [upd_upd, List.range_succ, List.map_append]
      rfl
  · subst e
    exact q l hl
theorem rd_strs {i j : Str} {A : Str → Str → Prop} (hz : i.length + j.length ≤ sizeLine) (q : A i j) : ∃ k l, V.str i = .str k ∧ V.str j = .str l ∧ k.length + l.length ≤ sizeLine ∧ A k l := ⟨i, j, rfl, rfl, hz, q⟩
/-- xs.append(e) -/
theorem rd_bm {T : String} {r : V → List V → Hp → VK → Prop} {t : TA} (h : te σ H fun x H1 => tyV K T x H1 ∧ t σ H1 fun xs H2 => r x xs H2 Q) : tBM K T r te t σ H Q := h
theorem rd_tyL {A : Prop} (h : SqL K H a xs) (q : A) : tyV K "list" (.ref a) H ∧ A := ⟨.inl ⟨rfl, xs, h⟩, q⟩
theorem rd_append (h : H a = some (.lst xs)) (hz : xs.length < 16777216) (q : Q .non (upd H a (.lst (xs ++ [y])))) : rAppend (.ref a) [y] H Q := ⟨a, xs, y, rfl, rfl, h, by rw [sizeLine_eq]; exact hz, q⟩
/-- a text of what x is -/
theorem rd_repr {d : PyData} (h : Dp K H x d) (h1 : d.showable = true) (h2 : d.hasDict = false) (h3 : d.depth ≤ 100) (h4 : d.shown.length ≤ sizeLine) (q : Q (.str d.shown) H) : rRepr K [x] H Q := ⟨x, d, rfl, h, h1, h2, h3, h4, q⟩
end
/-! ### exceptions as values -/
/-- at a: an error of the class at C with this value -/
def ExAt (H : Hp) (a C : Addr) (v : V) : Prop := ∃ d, H a = some (exo a C (some d)) ∧ H d = some (exd d [(("value" : Str), v)])
theorem ExAt.mono {H H' : Hp} {a C : Addr} {v : V} (h : ExAt H a C v) (s : Same H H') : ExAt H' a C v := by
  obtain ⟨d, h1, h2⟩ := h
  exact ⟨d, s _ _ h1, s _ _ h2⟩
/-- the error class x at C -/
structure ExT (K : PySem.W.Frag) (mg : Str → Option Value) (x : Str) (C fI : Addr) : Prop where
  c : OexC K C
  i : PySem.W.findIn K (.ref C) "__init__" = some (some (.ref fI))
  t : PySem.W.typeIn K (.ref fI) = some (.type "function")
  g : mg x = some (.ref C)
  v : ExV K C
  n : PySem.W.findIn K (.ref C) "value" = some none
theorem ExAt.put {H : Hp} {a C p : Addr} {v : V} {xs : List V} {o : HO} (h : ExAt H a C v) (hp : H p = some (.lst xs)) : ExAt (upd H p o) a C v := by
  obtain ⟨d, h1, h2⟩ := h
  have n1 : a ≠ p := ne_of h1 hp fun z => by
    have z' : HO.ext _ = HO.lst xs := z
    cases z'
  have n2 : d ≠ p := ne_of h2 hp fun z => by
    have z' : HO.ext _ = HO.lst xs := z
    cases z'
  exact ⟨d, lk_ne n1 h1, lk_ne n2 h2⟩
/-- self.value = value -/
def spInit (K : PySem.W.Frag) : Sp := fun vs H Q _ => ∃ (a C : Addr) (v : V), vs = [.ref a, v] ∧ H a = some (exo a C none) ∧ OexC K C ∧ PySem.W.findIn K (.ref C) "value" = some none ∧
  ∀ d, H d = none → d ≠ a → Q .non (upd (upd H d (exd d [(("value" : Str), v)])) a (exo a C (some d)))
theorem same_lk {H H' : Hp} {a : Addr} {u : HO} (s : Same H H') (h : H a = some u) : H' a = some u := s _ _ h
theorem same_new {H H' : Hp} {p : Addr} {o : HO} (s : Same H H') (h : H' p = none) : Same H (upd H' p o) := fun b u e => lk_new (s b u e) h
theorem same_put {H H' : Hp} {p : Addr} {o : HO} (s : Same H H') (h : H p = none) : Same H (upd H' p o) := fun b u e => by
  rw [upd_ne (ne_of_none e h)]
  exact s b u e
theorem Same.new {H : Hp} {p : Addr} {o : HO} (h : H p = none) : Same H (upd H p o) := fun b u e => lk_new e h
section
variable {K : PySem.W.Frag} {mg : Str → Option Value} {σ : L2.St} {H : Hp} {v : V} {x : Str} {C fI : Addr}
theorem rd_mk {Q : Addr → Hp → Prop} (T : ExT K mg x C fI) (q : ∀ a H', ExAt H' a C v → Same H H' → H a = none → Q a H') :
    ∃ y, [v] = [y] ∧ ∀ a, H a = none → spInit K [.ref a, y] (upd H a (exo a C none)) (fun u H2 => u = .non ∧ Q a H2) (fun _ _ _ => False) := by
  refine ⟨v, rfl, fun a ha => ⟨a, C, v, rfl, upd_same, T.c, T.n, fun d hd ne => ⟨rfl, q a _ ⟨d, upd_same, ?_⟩ (fun b o e => ?_) ha⟩⟩⟩
  · rw [upd_ne ne, upd_same]
  · have h1 : b ≠ a := ne_of_none e ha
    have h2 : b ≠ d := ne_of_none (lk_new e ha) hd
    rw [upd_ne h1, upd_ne h2, upd_ne h1]
    exact e
theorem rd_mkv {sp : Sp} {ta : TA} {Q : VK} (h : ta σ H fun vs H1 => ∃ y, vs = [y] ∧ ∀ a, H1 a = none → sp [.ref a, y] (upd H1 a (exo a C none)) (fun v H2 => v = .non ∧ Q (.ref a) H2) (fun _ _ _ => False)) : tMkV C sp ta σ H Q := h
theorem rd_xv {Q : VK} {te : TE} {f : Str} (h : te σ H fun x H1 => ∃ (a C dx : Addr) (fs : List (Str × V)) (v : V), x = .ref a ∧ H1 a = some (exo a C (some dx)) ∧ H1 dx = some (exd dx fs) ∧ ExV K C ∧ PySem.W.findIn K (.ref C) f = some none ∧ fs.lookup f = some v ∧ Q v H1) : tXv K f te σ H Q := h
theorem rd_value {a : Addr} {Q : V → Prop} (h : ExAt H a C v) (T : ExT K mg x C fI) (q : Q v) :
    ∃ (a' C : Addr) (dx : Addr) (fs : List (Str × V)) (v' : V), V.ref a = .ref a' ∧ H a' = some (exo a' C (some dx)) ∧ H dx = some (exd dx fs) ∧ ExV K C ∧ PySem.W.findIn K (.ref C) "value" = some none ∧ fs.lookup ("value" : Str) = some v' ∧ Q v' := by
  obtain ⟨d, h1, h2⟩ := h
  exact ⟨a, C, d, _, v, rfl, h1, h2, T.v, T.n, by simp [List.lookup], q⟩
/-- isinstance(e, c) -/
theorem rd_isV {a : Addr} {c : V} {u : Value} {b : Bool} {Q : VK} (h : ExAt H a C v) (T : ExV K C) (hc : ClsV c u) (e : PySem.W.kitOne K (.ref C) u = some b) (q : Q (.bl b) H) : rIsV K [.ref a, c] H Q := by
  obtain ⟨d, h1, h2⟩ := h
  exact ⟨a, C, d, _, c, u, b, rfl, hc, h1, h2, T, e, q⟩
theorem rd_isi {y c : V} {t u : Value} {b : Bool} {Q : VK} (hc : ClsV c u) (ty : TyX K H y t) (e : PySem.W.kitOne K t u = some b) (q : Q (.bl b) H) : rIsi K [y, c] H Q := ⟨y, c, t, u, b, rfl, hc, ty, e, q⟩
end
end Ev

namespace Ev
open PySem PySem.Spec PyProof.Rows L2
local macro_rules | `(tactic| wtm_at "ev_ne") => `(tactic| first | assumption | exact Ne.symm (by assumption))
local macro_rules | `(tactic| wtm_at "ev_lk") => `(tactic| first | assumption | exact upd_same | (refine lk_new' (by assumption) ?_; wtm_at "ev_lk") | (refine lk_ne (by wtm_at "ev_ne") ?_; wtm_at "ev_lk") | (refine same_lk (by assumption) ?_; wtm_at "ev_lk"))
local macro_rules | `(tactic| wtm_at "ev_sm") => `(tactic| first | assumption | exact Same.refl _ | (refine same_new ?_ (by assumption); wtm_at "ev_sm") | (refine Same.trans ?_ (by assumption); wtm_at "ev_sm"))
local macro_rules | `(tactic| wtm_at "ev_no") => `(tactic| first | assumption | exact no_back (by assumption) | (refine no_new ?_ (by wtm_at "ev_ne"); wtm_at "ev_no"))
local macro_rules | `(tactic| wtm_at "ev_sq") => `(tactic| first | assumption | exact SqL.of (by wtm_at "ev_lk") | exact SqT.of (by wtm_at "ev_lk"))
local macro_rules | `(tactic| wtm_at "ev_step") => `(tactic| with_reducible first
  | refine rd_seq ?_ | refine rd_next ?_ | refine rd_ret ?_ | refine rd_retN ?_ | refine rd_if ?_ | refine rd_drop ?_ | refine rd_asg ?_ | refine rd_name ?_ | refine rd_gsub ?_ | refine rd_gnil ?_ | refine rd_gcons ?_
  | refine rd_c ?_ | refine rd_op ?_ | refine rd_un ?_ | refine rd_rI0 ?_ | refine rd_rU ?_ | refine rd_tup ?_ | refine rd_lst ?_ | refine rd_nil ?_ | refine rd_cons ?_ | refine rd_cb ?_ | refine rd_call ?_ | refine rd_sl ?_ | refine rd_no ?_ | refine rd_part ?_
  | refine rd_test ?_ | refine rd_tB ?_ | refine rd_not ?_ | refine rd_and ?_ | refine rd_or ?_ | refine rd_notV ?_ | refine rd_andV ?_ | refine rd_orV ?_ | refine rd_ifE ?_ | refine rd_bl ?_ | refine rd_ex ?_
  | refine rd_rng1 ?_ | refine rd_overL ?_ | refine rd_overT ?_ | refine rd_forA ?_ | refine rd_forB ?_ | refine rd_forC ?_ | refine rd_lcA ?_ | refine rd_lcB ?_ | refine rd_lcC ?_ | refine rd_bm ?_ | refine rd_mkv ?_ | refine rd_xv ?_
  | refine rd_T ?_ | refine rd_F ?_ | refine rd_True ?_ | refine rd_False ?_ | refine rd_int ?_ | refine rd_intB ?_ | refine rd_one ?_ | refine rd_two ?_)
local macro_rules | `(tactic| wtm_at "ev_cond") => `(tactic| first | assumption | exact (show (0 : Int) < _ by decide) | exact (show (0 : Int) < _ by omega) | exact Or.inl ⟨by decide, by decide⟩ | exact Or.inr ⟨by decide, by decide⟩ | exact pow_cond (by decide) (by decide) (by first | decide | omega) (by first | decide | omega) | exact wide_div (b := 2000) (by first | assumption | decide | omega) (by first | decide | omega) (by decide) (by decide))
local macro_rules | `(tactic| wtm_at "ev_side") => `(tactic| first
  | ((with_reducible apply rd_var); exact rfl)
  | ((with_reducible apply rd_ixL); (wtm_at "ev_sq"); exact rfl)
  | ((with_reducible apply rd_ixT); (wtm_at "ev_sq"); exact rfl)
  | ((with_reducible apply rd_eq); exact rfl)
  | ((with_reducible apply rd_ne); exact rfl)
  | ((with_reducible apply rd_setL); (wtm_at "ev_lk"); exact rfl)
  | ((with_reducible apply rd_gtup); (wtm_at "ev_sq"); exact rfl)
  | ((with_reducible apply rd_len); (wtm_at "ev_sq"))
  | ((with_reducible apply rd_lenT); (wtm_at "ev_sq"))
  | ((with_reducible apply rd_rg); (first | decide | omega); (first | decide | omega))
  | ((with_reducible apply rd_atL); (wtm_at "ev_sq"))
  | ((with_reducible apply rd_atT); (wtm_at "ev_sq"))
  | ((with_reducible apply rd_tyL); (wtm_at "ev_sq"))
  | ((with_reducible apply rd_cat); (wtm_at "ev_lk"); (wtm_at "ev_lk"); exact Nat.le_of_ble_eq_true rfl)
  | ((with_reducible apply rd_size); exact Nat.le_of_ble_eq_true rfl)
  | ((with_reducible apply rd_rI); wtm_at "ev_cond"))
local macro_rules | `(tactic| wtm_at "ev_rd") => `(tactic| repeat (first | wtm_at "ev_step" | wtm_at "ev_side"))
local macro_rules | `(tactic| wtm_at "ev_go") => `(tactic| ((try simp only [L2.start, List.map_cons, List.map_nil, List.length_cons, List.length_nil, Nat.reduceAdd, Nat.reduceSub, List.replicate_succ, List.replicate_zero, List.cons_append, List.nil_append]); wtm_at "ev_rd"; (try simp only [List.set_cons_zero, List.set_cons_succ, upd_upd])))
def top (i : Nat) : Stmt := PySem.Challenge.pw_everyspan_k01_errors_made.main.body.getD i (.Pass ⟨0, 0, 0, 0⟩)
abbrev s_SpanError_init : Stmt := inClass (top 1) 0
theorem sc_SpanError_init : FnScope ["self", "value"] ["self", "value"] (defScope s_SpanError_init) := ⟨rfl, rfl, rfl, by decide +kernel, rfl, by decide +kernel, by decide +kernel⟩
abbrev s_pool : Stmt := top 14
theorem sc_pool : FnScope ["script", "spot", "cell"] ["script", "spot"] (defScope s_pool) := ⟨rfl, rfl, rfl, by decide +kernel, rfl, by decide +kernel, by decide +kernel⟩
abbrev s_draw : Stmt := top 15
theorem sc_draw : FnScope ["pool", "many", "drawn", "mixed"] ["pool", "many"] (defScope s_draw) := ⟨rfl, rfl, rfl, by decide +kernel, rfl, by decide +kernel, by decide +kernel⟩
abbrev s_thing : Stmt := top 16
theorem sc_thing : FnScope ["pool", "some"] ["pool"] (defScope s_thing) := ⟨rfl, rfl, rfl, by decide +kernel, rfl, by decide +kernel, by decide +kernel⟩
abbrev s_made_of : Stmt := top 17
theorem sc_made_of : FnScope ["thing", "is_named", "found"] ["thing", "is_named"] (defScope s_made_of) := ⟨rfl, rfl, rfl, by decide +kernel, rfl, by decide +kernel, by decide +kernel⟩
abbrev s_classes : Stmt := top 18
theorem sc_classes : FnScope ["caught", "found"] ["caught"] (defScope s_classes) := ⟨rfl, rfl, rfl, by decide +kernel, rfl, by decide +kernel, by decide +kernel⟩
abbrev s_right : Stmt := top 19
theorem sc_right : FnScope ["pool", "is_named", "thing", "made", "spot", "due", "at"] ["pool"] (defScope s_right) := ⟨rfl, rfl, rfl, by decide +kernel, rfl, by decide +kernel, by decide +kernel⟩
abbrev s_law : Stmt := top 20
theorem sc_law : FnScope ["script", "spot", "pool", "turn"] ["script"] (defScope s_law) := ⟨rfl, rfl, rfl, by decide +kernel, rfl, by decide +kernel, by decide +kernel⟩
/-! ### what the top has written -/
structure Txt (K : PySem.W.Frag) (mg : Str → Option Value) (fI c0 c1 c2 c3 c4 c5 c6 c7 c8 c9 c10 c11 : Addr) : Prop where
  x_InvalidDays : ExT K mg "InvalidDays" c0 fI
  x_InvalidRule : ExT K mg "InvalidRule" c1 fI
  x_InvalidLength : ExT K mg "InvalidLength" c2 fI
  x_InvalidNumber : ExT K mg "InvalidNumber" c3 fI
  x_InvalidKnown : ExT K mg "InvalidKnown" c4 fI
  x_InvalidDay : ExT K mg "InvalidDay" c5 fI
  x_NoRows : ExT K mg "NoRows" c6 fI
  x_Contradiction : ExT K mg "Contradiction" c7 fI
  x_TooMany : ExT K mg "TooMany" c8 fI
  x_NothingToUndo : ExT K mg "NothingToUndo" c9 fI
  x_Unreadable : ExT K mg "Unreadable" c10 fI
  x_SpanError : ExT K mg "SpanError" c11 fI
  n_int : mg "int" = none
  n_max : mg "max" = none
  n_min : mg "min" = none
  n_abs : mg "abs" = none
  n_len : mg "len" = none
  n_repr : mg "repr" = none
  n_isinstance : mg "isinstance" = none
  n_range : mg "range" = none
  n_str : mg "str" = none
  n_list : mg "list" = none
  n_ValueError : mg "ValueError" = none
  k_0_0 : PySem.W.kitOne K (.ref c0) (.ref c0) = some true
  k_0_1 : PySem.W.kitOne K (.ref c0) (.ref c1) = some false
  k_0_2 : PySem.W.kitOne K (.ref c0) (.ref c2) = some false
  k_0_3 : PySem.W.kitOne K (.ref c0) (.ref c3) = some false
  k_0_4 : PySem.W.kitOne K (.ref c0) (.ref c4) = some false
  k_0_5 : PySem.W.kitOne K (.ref c0) (.ref c5) = some false
  k_0_6 : PySem.W.kitOne K (.ref c0) (.ref c6) = some false
  k_0_7 : PySem.W.kitOne K (.ref c0) (.ref c7) = some false
  k_0_8 : PySem.W.kitOne K (.ref c0) (.ref c8) = some false
  k_0_9 : PySem.W.kitOne K (.ref c0) (.ref c9) = some false
  k_0_10 : PySem.W.kitOne K (.ref c0) (.ref c10) = some false
  k_0_11 : PySem.W.kitOne K (.ref c0) (.ref c11) = some true
  k_1_0 : PySem.W.kitOne K (.ref c1) (.ref c0) = some false
  k_1_1 : PySem.W.kitOne K (.ref c1) (.ref c1) = some true
  k_1_2 : PySem.W.kitOne K (.ref c1) (.ref c2) = some false
  k_1_3 : PySem.W.kitOne K (.ref c1) (.ref c3) = some false
  k_1_4 : PySem.W.kitOne K (.ref c1) (.ref c4) = some false
  k_1_5 : PySem.W.kitOne K (.ref c1) (.ref c5) = some false
  k_1_6 : PySem.W.kitOne K (.ref c1) (.ref c6) = some false
  k_1_7 : PySem.W.kitOne K (.ref c1) (.ref c7) = some false
  k_1_8 : PySem.W.kitOne K (.ref c1) (.ref c8) = some false
  k_1_9 : PySem.W.kitOne K (.ref c1) (.ref c9) = some false
  k_1_10 : PySem.W.kitOne K (.ref c1) (.ref c10) = some false
  k_1_11 : PySem.W.kitOne K (.ref c1) (.ref c11) = some true
  k_2_0 : PySem.W.kitOne K (.ref c2) (.ref c0) = some false
  k_2_1 : PySem.W.kitOne K (.ref c2) (.ref c1) = some false
  k_2_2 : PySem.W.kitOne K (.ref c2) (.ref c2) = some true
  k_2_3 : PySem.W.kitOne K (.ref c2) (.ref c3) = some false
  k_2_4 : PySem.W.kitOne K (.ref c2) (.ref c4) = some false
  k_2_5 : PySem.W.kitOne K (.ref c2) (.ref c5) = some false
  k_2_6 : PySem.W.kitOne K (.ref c2) (.ref c6) = some false
  k_2_7 : PySem.W.kitOne K (.ref c2) (.ref c7) = some false
  k_2_8 : PySem.W.kitOne K (.ref c2) (.ref c8) = some false
  k_2_9 : PySem.W.kitOne K (.ref c2) (.ref c9) = some false
  k_2_10 : PySem.W.kitOne K (.ref c2) (.ref c10) = some false
  k_2_11 : PySem.W.kitOne K (.ref c2) (.ref c11) = some true
  k_3_0 : PySem.W.kitOne K (.ref c3) (.ref c0) = some false
  k_3_1 : PySem.W.kitOne K (.ref c3) (.ref c1) = some false
  k_3_2 : PySem.W.kitOne K (.ref c3) (.ref c2) = some false
  k_3_3 : PySem.W.kitOne K (.ref c3) (.ref c3) = some true
  k_3_4 : PySem.W.kitOne K (.ref c3) (.ref c4) = some false
  k_3_5 : PySem.W.kitOne K (.ref c3) (.ref c5) = some false
  k_3_6 : PySem.W.kitOne K (.ref c3) (.ref c6) = some false
  k_3_7 : PySem.W.kitOne K (.ref c3) (.ref c7) = some false
  k_3_8 : PySem.W.kitOne K (.ref c3) (.ref c8) = some false
  k_3_9 : PySem.W.kitOne K (.ref c3) (.ref c9) = some false
  k_3_10 : PySem.W.kitOne K (.ref c3) (.ref c10) = some false
  k_3_11 : PySem.W.kitOne K (.ref c3) (.ref c11) = some true
  k_4_0 : PySem.W.kitOne K (.ref c4) (.ref c0) = some false
  k_4_1 : PySem.W.kitOne K (.ref c4) (.ref c1) = some false
  k_4_2 : PySem.W.kitOne K (.ref c4) (.ref c2) = some false
  k_4_3 : PySem.W.kitOne K (.ref c4) (.ref c3) = some false
  k_4_4 : PySem.W.kitOne K (.ref c4) (.ref c4) = some true
  k_4_5 : PySem.W.kitOne K (.ref c4) (.ref c5) = some false
  k_4_6 : PySem.W.kitOne K (.ref c4) (.ref c6) = some false
  k_4_7 : PySem.W.kitOne K (.ref c4) (.ref c7) = some false
  k_4_8 : PySem.W.kitOne K (.ref c4) (.ref c8) = some false
  k_4_9 : PySem.W.kitOne K (.ref c4) (.ref c9) = some false
  k_4_10 : PySem.W.kitOne K (.ref c4) (.ref c10) = some false
  k_4_11 : PySem.W.kitOne K (.ref c4) (.ref c11) = some true
  k_5_0 : PySem.W.kitOne K (.ref c5) (.ref c0) = some false
  k_5_1 : PySem.W.kitOne K (.ref c5) (.ref c1) = some false
  k_5_2 : PySem.W.kitOne K (.ref c5) (.ref c2) = some false
  k_5_3 : PySem.W.kitOne K (.ref c5) (.ref c3) = some false
  k_5_4 : PySem.W.kitOne K (.ref c5) (.ref c4) = some false
  k_5_5 : PySem.W.kitOne K (.ref c5) (.ref c5) = some true
  k_5_6 : PySem.W.kitOne K (.ref c5) (.ref c6) = some false
  k_5_7 : PySem.W.kitOne K (.ref c5) (.ref c7) = some false
  k_5_8 : PySem.W.kitOne K (.ref c5) (.ref c8) = some false
  k_5_9 : PySem.W.kitOne K (.ref c5) (.ref c9) = some false
  k_5_10 : PySem.W.kitOne K (.ref c5) (.ref c10) = some false
  k_5_11 : PySem.W.kitOne K (.ref c5) (.ref c11) = some true
  k_6_0 : PySem.W.kitOne K (.ref c6) (.ref c0) = some false
  k_6_1 : PySem.W.kitOne K (.ref c6) (.ref c1) = some false
  k_6_2 : PySem.W.kitOne K (.ref c6) (.ref c2) = some false
  k_6_3 : PySem.W.kitOne K (.ref c6) (.ref c3) = some false
  k_6_4 : PySem.W.kitOne K (.ref c6) (.ref c4) = some false
  k_6_5 : PySem.W.kitOne K (.ref c6) (.ref c5) = some false
  k_6_6 : PySem.W.kitOne K (.ref c6) (.ref c6) = some true
  k_6_7 : PySem.W.kitOne K (.ref c6) (.ref c7) = some false
  k_6_8 : PySem.W.kitOne K (.ref c6) (.ref c8) = some false
  k_6_9 : PySem.W.kitOne K (.ref c6) (.ref c9) = some false
  k_6_10 : PySem.W.kitOne K (.ref c6) (.ref c10) = some false
  k_6_11 : PySem.W.kitOne K (.ref c6) (.ref c11) = some true
  k_7_0 : PySem.W.kitOne K (.ref c7) (.ref c0) = some false
  k_7_1 : PySem.W.kitOne K (.ref c7) (.ref c1) = some false
  k_7_2 : PySem.W.kitOne K (.ref c7) (.ref c2) = some false
  k_7_3 : PySem.W.kitOne K (.ref c7) (.ref c3) = some false
  k_7_4 : PySem.W.kitOne K (.ref c7) (.ref c4) = some false
  k_7_5 : PySem.W.kitOne K (.ref c7) (.ref c5) = some false
  k_7_6 : PySem.W.kitOne K (.ref c7) (.ref c6) = some false
  k_7_7 : PySem.W.kitOne K (.ref c7) (.ref c7) = some true
  k_7_8 : PySem.W.kitOne K (.ref c7) (.ref c8) = some false
  k_7_9 : PySem.W.kitOne K (.ref c7) (.ref c9) = some false
  k_7_10 : PySem.W.kitOne K (.ref c7) (.ref c10) = some false
  k_7_11 : PySem.W.kitOne K (.ref c7) (.ref c11) = some true
  k_8_0 : PySem.W.kitOne K (.ref c8) (.ref c0) = some false
  k_8_1 : PySem.W.kitOne K (.ref c8) (.ref c1) = some false
  k_8_2 : PySem.W.kitOne K (.ref c8) (.ref c2) = some false
  k_8_3 : PySem.W.kitOne K (.ref c8) (.ref c3) = some false
  k_8_4 : PySem.W.kitOne K (.ref c8) (.ref c4) = some false
  k_8_5 : PySem.W.kitOne K (.ref c8) (.ref c5) = some false
  k_8_6 : PySem.W.kitOne K (.ref c8) (.ref c6) = some false
  k_8_7 : PySem.W.kitOne K (.ref c8) (.ref c7) = some false
  k_8_8 : PySem.W.kitOne K (.ref c8) (.ref c8) = some true
  k_8_9 : PySem.W.kitOne K (.ref c8) (.ref c9) = some false
  k_8_10 : PySem.W.kitOne K (.ref c8) (.ref c10) = some false
  k_8_11 : PySem.W.kitOne K (.ref c8) (.ref c11) = some true
  k_9_0 : PySem.W.kitOne K (.ref c9) (.ref c0) = some false
  k_9_1 : PySem.W.kitOne K (.ref c9) (.ref c1) = some false
  k_9_2 : PySem.W.kitOne K (.ref c9) (.ref c2) = some false
  k_9_3 : PySem.W.kitOne K (.ref c9) (.ref c3) = some false
  k_9_4 : PySem.W.kitOne K (.ref c9) (.ref c4) = some false
  k_9_5 : PySem.W.kitOne K (.ref c9) (.ref c5) = some false
  k_9_6 : PySem.W.kitOne K (.ref c9) (.ref c6) = some false
  k_9_7 : PySem.W.kitOne K (.ref c9) (.ref c7) = some false
  k_9_8 : PySem.W.kitOne K (.ref c9) (.ref c8) = some false
  k_9_9 : PySem.W.kitOne K (.ref c9) (.ref c9) = some true
  k_9_10 : PySem.W.kitOne K (.ref c9) (.ref c10) = some false
  k_9_11 : PySem.W.kitOne K (.ref c9) (.ref c11) = some true
  k_10_0 : PySem.W.kitOne K (.ref c10) (.ref c0) = some false
  k_10_1 : PySem.W.kitOne K (.ref c10) (.ref c1) = some false
  k_10_2 : PySem.W.kitOne K (.ref c10) (.ref c2) = some false
  k_10_3 : PySem.W.kitOne K (.ref c10) (.ref c3) = some false
  k_10_4 : PySem.W.kitOne K (.ref c10) (.ref c4) = some false
  k_10_5 : PySem.W.kitOne K (.ref c10) (.ref c5) = some false
  k_10_6 : PySem.W.kitOne K (.ref c10) (.ref c6) = some false
  k_10_7 : PySem.W.kitOne K (.ref c10) (.ref c7) = some false
  k_10_8 : PySem.W.kitOne K (.ref c10) (.ref c8) = some false
  k_10_9 : PySem.W.kitOne K (.ref c10) (.ref c9) = some false
  k_10_10 : PySem.W.kitOne K (.ref c10) (.ref c10) = some true
  k_10_11 : PySem.W.kitOne K (.ref c10) (.ref c11) = some true
  k_11_0 : PySem.W.kitOne K (.ref c11) (.ref c0) = some false
  k_11_1 : PySem.W.kitOne K (.ref c11) (.ref c1) = some false
  k_11_2 : PySem.W.kitOne K (.ref c11) (.ref c2) = some false
  k_11_3 : PySem.W.kitOne K (.ref c11) (.ref c3) = some false
  k_11_4 : PySem.W.kitOne K (.ref c11) (.ref c4) = some false
  k_11_5 : PySem.W.kitOne K (.ref c11) (.ref c5) = some false
  k_11_6 : PySem.W.kitOne K (.ref c11) (.ref c6) = some false
  k_11_7 : PySem.W.kitOne K (.ref c11) (.ref c7) = some false
  k_11_8 : PySem.W.kitOne K (.ref c11) (.ref c8) = some false
  k_11_9 : PySem.W.kitOne K (.ref c11) (.ref c9) = some false
  k_11_10 : PySem.W.kitOne K (.ref c11) (.ref c10) = some false
  k_11_11 : PySem.W.kitOne K (.ref c11) (.ref c11) = some true
  k_0_v : PySem.W.kitOne K (.ref c0) (.type "ValueError") = some true
  k_1_v : PySem.W.kitOne K (.ref c1) (.type "ValueError") = some true
  k_2_v : PySem.W.kitOne K (.ref c2) (.type "ValueError") = some true
  k_3_v : PySem.W.kitOne K (.ref c3) (.type "ValueError") = some true
  k_4_v : PySem.W.kitOne K (.ref c4) (.type "ValueError") = some true
  k_5_v : PySem.W.kitOne K (.ref c5) (.type "ValueError") = some true
  k_6_v : PySem.W.kitOne K (.ref c6) (.type "ValueError") = some true
  k_7_v : PySem.W.kitOne K (.ref c7) (.type "ValueError") = some true
  k_8_v : PySem.W.kitOne K (.ref c8) (.type "ValueError") = some true
  k_9_v : PySem.W.kitOne K (.ref c9) (.type "ValueError") = some true
  k_10_v : PySem.W.kitOne K (.ref c10) (.type "ValueError") = some true
  k_11_v : PySem.W.kitOne K (.ref c11) (.type "ValueError") = some true

/-! ### the draws -/
/-- a pool of digits, at most n numbers mixed so far -/
def PoolL (L : List V) (n : Int) : Prop := ∃ z m c : Int, L = [.int z, .int m, .int c] ∧ 0 ≤ m ∧ m < 4611686018427387904 ∧ 0 ≤ c ∧ c ≤ n
theorem PoolL.le {L : List V} {n m : Int} (h : PoolL L n) (e : n ≤ m) : PoolL L m := by
  obtain ⟨z, a, c, rfl, h1, h2, h3, h4⟩ := h
  exact ⟨z, a, c, rfl, h1, h2, h3, Int.le_trans h4 e⟩
def spDraw : Sp := fun vs H Q _ => ∃ (p : Addr) (L : List V) (n m : Int), vs = [.ref p, .int m] ∧ H p = some (.lst L) ∧ PoolL L n ∧ n ≤ 1000000000 ∧ 0 < m ∧ m < 2 ^ 2000 ∧ ∀ (d : Int) (L' : List V), 0 ≤ d → d < m → PoolL L' (n + 1) → Q (.int d) (upd H p (.lst L'))
theorem rd_draw {H : Hp} {Q : VK} {E : XK} {p : Addr} {L : List V} {n m : Int} (hp : H p = some (.lst L)) (hL : PoolL L n) (hn : n ≤ 1000000000) (h0 : 0 < m) (hm : m < 2 ^ 2000)
    (q : ∀ (d : Int) (L' : List V), 0 ≤ d → d < m → PoolL L' (n + 1) → Q (.int d) (upd H p (.lst L'))) : spDraw ([.ref p, .int m] ++ []) H Q E := ⟨p, L, n, m, rfl, hp, hL, hn, h0, hm, q⟩
section
variable {P : Program} {w : World} {K : PySem.W.Frag} {mg : Str → Option Value} {base : Heap} {fI c0 c1 c2 c3 c4 c5 c6 c7 c8 c9 c10 c11 : Addr}
set_option maxHeartbeats 1000000 in
theorem ok_draw {f : Addr} {fd : FuncData} (F : Fun K "_law_draw" "_law_draw" s_draw f fd) (T : Txt K mg fI c0 c1 c2 c3 c4 c5 c6 c7 c8 c9 c10 c11) : FnOk P w K mg base CX0 1 f fd ["pool", "many"] spDraw := by
  refine F.ok sc_draw (fun vs H Q E h => ?_) (fun cdv A outer s H vs Q E hr h => ?_)
  · obtain ⟨p, L, n, m, rfl, _⟩ := h
    rfl
  · obtain ⟨p, L, n, m, rfl, hp, ⟨z, y, c, rfl, hy0, hy1, hc0, hc1⟩, hn, hm, hm2, k⟩ := h
    refine ⟨_, (pss_cons (ps_if (pt_cmpR op_gt (pe_ix ix_list (pv 0) pe_int (fun _ _ => rfl)) pe_int (nomark _)) 
        (pss_cons (ps_set (i := 2) sc_draw.nd rfl (Or.inl rfl) (pe_op op_mod (pe_callTy call_int1 (by rfl) T.n_int boot_int (pa_cons (pe_ix ix_list (pv 0) pe_int (fun _ _ => rfl)) pa_nil)) (pv 1)))
        (pss_cons (ps_asg (pe_op op_fdivW (pe_ix ix_list (pv 0) pe_int (fun _ _ => rfl)) (pv 1)) (pg_sub (pv 0) pe_int set_list))
        (pss_one (ps_ret (pv 2))))) pss_nil)
      (pss_cons (ps_asg (pe_op op_add (pe_ix ix_list (pv 0) pe_int (fun _ _ => rfl)) pe_int) (pg_sub (pv 0) pe_int set_list))
      (pss_cons (ps_set (i := 3) sc_draw.nd rfl (Or.inl rfl) (pe_op op_mod (pe_callTy call_int1 (by rfl) T.n_int boot_int (pa_cons (pe_op op_powW (pe_op op_add (pe_ix ix_list (pv 0) pe_int (fun _ _ => rfl)) (pe_op op_mul pe_int (pe_ix ix_list (pv 0) pe_int (fun _ _ => rfl)))) pe_int) pa_nil)) pe_int))
      (pss_cons (ps_set (i := 3) sc_draw.nd rfl (Or.inl rfl) (pe_op op_mod (pe_callTy call_int1 (by rfl) T.n_int boot_int (pa_cons (pe_op op_powW (pe_op op_add (pv 3) (pe_op op_mul pe_int (pe_ix ix_list (pv 0) pe_int (fun _ _ => rfl)))) pe_int) pa_nil)) pe_int))
      (pss_one (ps_ret (pe_op op_mod (pe_callTy call_int1 (by rfl) T.n_int boot_int (pa_cons (pe_op op_fdivW (pv 3) pe_int) pa_nil)) (pv 1)))))))), ?_⟩
    wtm_at "ev_go"
    refine rd_ite (fun hz => ?_) (fun hz => ?_)
    · wtm_at "ev_go"
      exact k _ _ (Int.emod_nonneg _ (by omega)) (Int.emod_lt_of_pos _ hm) ⟨_, _, _, rfl, hy0, hy1, hc0, by omega⟩
    · wtm_at "ev_go"
      exact k _ _ (Int.emod_nonneg _ (by omega)) (Int.emod_lt_of_pos _ hm) ⟨_, _, _, rfl, hy0, hy1, by omega, by omega⟩
def spPool (K : PySem.W.Frag) : Sp := fun vs H Q _ => ∃ (a : Addr) (ns : List Int) (i : Int), vs = [.ref a, .int i] ∧ SqL K H a (ns.map V.int) ∧ 0 ≤ i ∧ i ≤ 100 ∧ ∀ (p : Addr) (L : List V), H p = none → PoolL L 0 → Q (.ref p) (upd H p (.lst L))
set_option maxHeartbeats 1000000 in
theorem ok_pool {f : Addr} {fd : FuncData} (F : Fun K "_law_pool" "_law_pool" s_pool f fd) (T : Txt K mg fI c0 c1 c2 c3 c4 c5 c6 c7 c8 c9 c10 c11) : FnOk P w K mg base CX0 1 f fd ["script", "spot"] (spPool K) := by
  refine F.ok sc_pool (fun vs H Q E h => ?_) (fun cdv A outer s H vs Q E hr h => ?_)
  · obtain ⟨a, ns, i, rfl, _⟩ := h
    rfl
  · obtain ⟨a, ns, i, rfl, hS, hi0, hi1, k⟩ := h
    have fin : ∀ (x c : Int) (p : Addr), H p = none → Q (.ref p) (upd H p (.lst [.int x, .int (c % 2305843009213693951 + 7368787 * (i + 1)), .int 0])) := fun x c p hp =>
      k p _ hp ⟨_, _, _, rfl, by have := Int.emod_nonneg c (by decide : (2305843009213693951 : Int) ≠ 0); omega, by have := Int.emod_lt_of_pos c (by decide : (0 : Int) < 2305843009213693951); omega, by decide, by decide⟩
    refine ⟨_, (pss_cons (ps_set (i := 2) sc_pool.nd rfl (Or.inl rfl) pe_int)
      (pss_cons (ps_if (pt_cmpR op_lt (pv 1) (pe_callB call_len_seq (by rfl) T.n_len PySem.boot_len (pa_cons (pv 0) pa_nil)) (nomark _)) 
        (pss_one (ps_set (i := 2) sc_pool.nd rfl (Or.inl rfl) (pe_ix ix_list (pv 0) (pv 1) (fun _ _ => rfl)))) pss_nil)
      (pss_one (ps_ret (pe_lst (pa_cons (pe_callB (call_max2 rfl) (by rfl) T.n_max boot_max (pa_cons pe_int (pa_cons (pe_op op_sub (pe_callB call_abs (by rfl) T.n_abs boot_abs (pa_cons (pv 2) pa_nil)) (pe_op op_powW pe_int pe_int)) pa_nil))) (pa_cons (pe_op op_add (pe_op op_mod (pe_callTy call_int1 (by rfl) T.n_int boot_int (pa_cons (pv 2) pa_nil)) pe_int) (pe_op op_mul pe_int (pe_op op_add (pv 1) pe_int))) (pa_cons pe_int pa_nil)))))))), ?_⟩
    wtm_at "ev_go"
    rw [List.length_map]
    refine rd_ite (fun hl => ?_) (fun hl => ?_)
    · obtain ⟨z, hz⟩ := at_int hi0 hl
      wtm_at "ev_go"
      refine rd_ixL hS hz ?_
      wtm_at "ev_go"
      exact fun p hp => fin _ _ p hp
    · wtm_at "ev_go"
      exact fun p hp => fin _ _ p hp
/-- some thing -/
inductive Thing (H : Hp) (m : Nat) : V → Prop
  | int (i : Int) : -1000000000000000000000000000000000000000 < i → i < 1000000000000000000000000000000000000000 → Thing H m (.int i)
  | tup {a : Addr} (i : Int) : H a = some (.tup [.int 1, .int i]) → 0 ≤ i → i < 9 → Thing H m (.ref a)
  | lst {a : Addr} (is : List Int) : H a = some (.lst (is.map V.int)) → is.length ≤ m → (∀ i ∈ is, 0 ≤ i ∧ i < 9) → Thing H m (.ref a)
  | non : Thing H m .non
  | str (z : Str) : (PyData.str z).shown.length ≤ 16777216 → Thing H m (.str z)
theorem digits : ∀ k : _root_.Fin 99, (("0.." : Str).length + (Str.ofString (toString ((k : Nat) : Int))).length ≤ 16777216) ∧ (PyData.str (("0.." : Str) ++ Str.ofString (toString ((k : Nat) : Int)))).shown.length ≤ 16777216 := by decide +kernel
def spThing : Sp := fun vs H Q _ => ∃ (p : Addr) (L : List V) (n : Int), vs = [.ref p] ∧ H p = some (.lst L) ∧ PoolL L n ∧ n ≤ 999999000 ∧ ∀ (v : V) (H' : Hp) (L' : List V), Thing H' 1 v → (v ≠ .ref p) → H' p = some (.lst L') → PoolL L' (n + 5) → (∀ b o, H b = some o → b ≠ p → H' b = some o) → (∀ a, v = .ref a → H a = none) → Q v H'
set_option maxHeartbeats 1000000 in
theorem ok_thing {f : Addr} {fd : FuncData} (F : Fun K "_law_thing" "_law_thing" s_thing f fd) (T : Txt K mg fI c0 c1 c2 c3 c4 c5 c6 c7 c8 c9 c10 c11) (GD : CalN P w K mg base 1 "_law_draw" spDraw) : FnOk P w K mg base CX0 2 f fd ["pool"] spThing := by
  refine F.ok sc_thing (fun vs H Q E h => ?_) (fun cdv A outer s H vs Q E hr h => ?_)
  · obtain ⟨p, L, n, rfl, _⟩ := h
    rfl
  · obtain ⟨p, L, n, rfl, hp, hL, hn, k⟩ := h
    refine ⟨_, (pss_cons (ps_set (i := 1) sc_thing.nd rfl (Or.inl rfl) (pe_lst (pa_cons (pe_op op_sub (pe_cN GD hr (by decide) (by rfl) (pa_cons (pv 0) (pa_cons (pe_op op_powW pe_int pe_int) pa_nil))) (pe_op op_powW pe_int pe_int)) (pa_cons (pe_tup (pa_cons pe_int (pa_cons (pe_cN GD hr (by decide) (by rfl) (pa_cons (pv 0) (pa_cons pe_int pa_nil))) pa_nil))) (pa_cons (pe_lst pa_nil) (pa_cons (pe_lst (pa_cons (pe_cN GD hr (by decide) (by rfl) (pa_cons (pv 0) (pa_cons pe_int pa_nil))) pa_nil)) (pa_cons pe_non pa_nil)))))))
      (pss_one (ps_ret (pe_ix ix_list (pe_op op_cat (pv 1) (pe_lst (pa_cons (pe_op op_add_str pe_str (pe_callTy call_str_int (by rfl) T.n_str boot_str (pa_cons (pe_cN GD hr (by decide) (by rfl) (pa_cons (pv 0) (pa_cons pe_int pa_nil))) pa_nil))) pa_nil))) (pe_cN GD hr (by decide) (by rfl) (pa_cons (pv 0) (pa_cons pe_int pa_nil))) (fun _ _ => rfl))))), ?_⟩
    have big : (0 : Int) < 10 ^ Int.toNat 30 ∧ (10 : Int) ^ Int.toNat 30 < 2 ^ 2000 := by decide +kernel
    have e30 : (10 : Int) ^ Int.toNat 30 = 1000000000000000000000000000000 := by decide +kernel
    have e29 : (10 : Int) ^ Int.toNat 29 = 100000000000000000000000000000 := by decide +kernel
    wtm_at "ev_go"
    refine rd_draw (by wtm_at "ev_lk") hL (by omega) big.1 big.2 (fun d1 L1 a1 b1 hL1 => ?_)
    wtm_at "ev_go"
    refine rd_draw (by wtm_at "ev_lk") hL1 (by omega) (by decide) (by decide +kernel) (fun d2 L2 a2 b2 hL2 => ?_)
    wtm_at "ev_go"
    intro q1 hq1
    have nq1 := hq1
    simp only [upd_none] at nq1
    repeat obtain ⟨_, nq1⟩ := nq1
    wtm_at "ev_go"
    intro q2 hq2
    have nq2 := hq2
    simp only [upd_none] at nq2
    repeat obtain ⟨_, nq2⟩ := nq2
    wtm_at "ev_go"
    refine rd_draw (by wtm_at "ev_lk") hL2 (by omega) (by decide) (by decide +kernel) (fun d3 L3 a3 b3 hL3 => ?_)
    wtm_at "ev_go"
    intro q3 hq3
    have nq3 := hq3
    simp only [upd_none] at nq3
    repeat obtain ⟨_, nq3⟩ := nq3
    wtm_at "ev_go"
    intro q4 hq4
    have nq4 := hq4
    simp only [upd_none] at nq4
    repeat obtain ⟨_, nq4⟩ := nq4
    wtm_at "ev_go"
    refine rd_draw (by wtm_at "ev_lk") hL3 (by omega) (by decide) (by decide +kernel) (fun d4 L4 a4 b4 hL4 => ?_)
    obtain ⟨u4, rfl⟩ : ∃ u : _root_.Fin 99, d4 = ((u : Nat) : Int) := ⟨⟨d4.toNat, by omega⟩, by show d4 = (d4.toNat : Int); omega⟩
    obtain ⟨w1, w2⟩ := digits u4
    wtm_at "ev_go"
    refine ⟨?_, ?_⟩
    · have hu := u4.isLt
      have : ((u4 : Nat) : Int).natAbs < 2 ^ 7 := by omega
      exact Nat.lt_of_lt_of_le (PySem.Flt.log2_lt_of (by decide) this) (by decide)
    wtm_at "ev_go"
    refine rd_strs (by rw [sizeLine_eq]; exact w1) ?_
    wtm_at "ev_go"
    intro q5 hq5
    have nq5 := hq5
    simp only [upd_none] at nq5
    repeat obtain ⟨_, nq5⟩ := nq5
    wtm_at "ev_go"
    intro q6 hq6
    have nq6 := hq6
    simp only [upd_none] at nq6
    repeat obtain ⟨_, nq6⟩ := nq6
    wtm_at "ev_go"
    refine rd_draw (by wtm_at "ev_lk") hL4 (by omega) (by decide) (by decide +kernel) (fun d5 L5 a5 b5 hL5 => ?_)
    wtm_at "ev_go"
    have six : d5 = 0 ∨ d5 = 1 ∨ d5 = 2 ∨ d5 = 3 ∨ d5 = 4 ∨ d5 = 5 := by omega
    rcases six with rfl | rfl | rfl | rfl | rfl | rfl
    · wtm_at "ev_go"
      exact k _ _ L5 (.int _ (by omega) (by omega)) (fun z => by cases z) (by wtm_at "ev_lk") (hL5.le (by omega)) (fun b o e nb => by wtm_at "ev_lk") (fun a z => by cases z)
    · wtm_at "ev_go"
      exact k _ _ L5 (.tup d2 (by wtm_at "ev_lk") a2 b2) (fun z => by injection z with z; exact absurd z (by wtm_at "ev_ne")) (by wtm_at "ev_lk") (hL5.le (by omega)) (fun b o e nb => by wtm_at "ev_lk") (fun a z => by injection z with z; subst z; assumption)
    · wtm_at "ev_go"
      exact k _ _ L5 (.lst [] (by wtm_at "ev_lk") (by decide) (fun i hi => by cases hi)) (fun z => by injection z with z; exact absurd z (by wtm_at "ev_ne")) (by wtm_at "ev_lk") (hL5.le (by omega)) (fun b o e nb => by wtm_at "ev_lk") (fun a z => by injection z with z; subst z; assumption)
    · wtm_at "ev_go"
      exact k _ _ L5 (.lst [d3] (by wtm_at "ev_lk") (Nat.le_of_ble_eq_true rfl) (fun i hi => by rw [List.mem_singleton] at hi; subst hi; exact ⟨a3, b3⟩)) (fun z => by injection z with z; exact absurd z (by wtm_at "ev_ne")) (by wtm_at "ev_lk") (hL5.le (by omega)) (fun b o e nb => by wtm_at "ev_lk") (fun a z => by injection z with z; subst z; assumption)
    · wtm_at "ev_go"
      exact k _ _ L5 .non (fun z => by cases z) (by wtm_at "ev_lk") (hL5.le (by omega)) (fun b o e nb => by wtm_at "ev_lk") (fun a z => by cases z)
    · wtm_at "ev_go"
      exact k _ _ L5 (.str _ w2) (fun z => by cases z) (by wtm_at "ev_lk") (hL5.le (by omega)) (fun b o e nb => by wtm_at "ev_lk") (fun a z => by cases z)
/-- what the thing shows -/
theorem show2 : ∀ x y : _root_.Fin 9, (PyData.list []).shown.length ≤ 16777216 ∧ (PyData.list [.int ((x : Nat) : Int)]).shown.length ≤ 16777216 ∧ (PyData.list [.int ((x : Nat) : Int), .int ((y : Nat) : Int)]).shown.length ≤ 16777216 ∧ (PyData.tuple [.int 1, .int ((x : Nat) : Int)]).shown.length ≤ 16777216 := by decide +kernel
theorem fin9 {i : Int} (h0 : 0 ≤ i) (h1 : i < 9) : ∃ x : _root_.Fin 9, i = ((x : Nat) : Int) := ⟨⟨i.toNat, by omega⟩, by show i = (i.toNat : Int); omega⟩
theorem small9 (x : _root_.Fin 9) : (PyData.int ((x : Nat) : Int)).showable = true := by
  revert x
  decide +kernel
theorem Thing.dp {H : Hp} {v : V} (t : Thing H 2 v) : ∃ d, Dp K H v d ∧ d.showable = true ∧ d.hasDict = false ∧ d.depth ≤ 100 ∧ d.shown.length ≤ sizeLine := by
  rw [sizeLine_eq]
  cases t with
  | int i h1 h2 =>
    have hb : i.natAbs.log2 < 1920 := by
      have e : (1000000000000000000000000000000000000000 : Nat) < 2 ^ 1900 := by decide +kernel
      have : i.natAbs < 2 ^ 1900 := by omega
      exact Nat.lt_of_lt_of_le (PySem.Flt.log2_lt_of (by decide) this) (by decide)
    refine ⟨_, .int i, by simpa [PyData.showable] using hb, rfl, by simp [PyData.depth], ?_⟩
    have := int_text_fits hb
    rw [sizeLine_eq] at this
    simpa only [PyData.shown] using this
  | @tup a i h h0 h1 =>
    obtain ⟨x, rfl⟩ := fin9 h0 h1
    exact ⟨_, .tup (SqT.of h) (.cons (.int _) (.cons (.int _) .nil)), by have := small9 x; simp only [PyData.showable, PyData.showableAll] at this ⊢; rw [this]; rfl, rfl, by simp [PyData.depth, PyData.depthAll], (show2 x x).2.2.2⟩
  | @lst a is h hl hi =>
    match is, hl, hi, h with
    | [], _, _, h => exact ⟨_, .lst (SqL.of h) .nil, rfl, rfl, by simp [PyData.depth, PyData.depthAll], (show2 0 0).1⟩
    | [i], _, hi, h =>
      obtain ⟨x, rfl⟩ := fin9 (hi _ List.mem_cons_self).1 (hi _ List.mem_cons_self).2
      exact ⟨_, .lst (SqL.of h) (.cons (.int _) .nil), by have := small9 x; simp only [PyData.showable, PyData.showableAll] at this ⊢; rw [this]; rfl, rfl, by simp [PyData.depth, PyData.depthAll], (show2 x x).2.1⟩
    | [i, j], _, hi, h =>
      obtain ⟨x, rfl⟩ := fin9 (hi _ List.mem_cons_self).1 (hi _ List.mem_cons_self).2
      obtain ⟨y, rfl⟩ := fin9 (hi j (by simp)).1 (hi j (by simp)).2
      exact ⟨_, .lst (SqL.of h) (.cons (.int _) (.cons (.int _) .nil)), by have := small9 x; have h2 := small9 y; simp only [PyData.showable, PyData.showableAll] at this h2 ⊢; rw [this, h2]; rfl, rfl, by simp [PyData.depth, PyData.depthAll], (show2 x y).2.2.1⟩
    | _ :: _ :: _ :: _, hl, _, _ => exact absurd hl (by simp)
  | non => exact ⟨_, .non, rfl, rfl, by simp [PyData.depth], by decide +kernel⟩
  | str z hz => exact ⟨_, .str z, rfl, rfl, by simp [PyData.depth], hz⟩
theorem Thing.mono {H H' : Hp} {m : Nat} {v : V} (t : Thing H m v) (s : ∀ a o, v = .ref a → H a = some o → H' a = some o) : Thing H' m v := by
  cases t with
  | int i h1 h2 => exact .int i h1 h2
  | tup i h h0 h1 => exact .tup i (s _ _ rfl h) h0 h1
  | lst is h hl hi => exact .lst is (s _ _ rfl h) hl hi
  | non => exact .non
  | str z hz => exact .str z hz
/-! ### the errors made -/
theorem ok_init {fd : FuncData} (F : Fun K "__init__" "SpanError.__init__" s_SpanError_init fI fd) : FnOk P w K mg base CX0 1 fI fd ["self", "value"] (spInit K) := by
  refine F.ok sc_SpanError_init (fun vs H Q E h => ?_) (fun cdv A outer s H vs Q E hr h => ?_)
  · obtain ⟨a, C, v, rfl, _⟩ := h
    rfl
  · obtain ⟨a, C, v, rfl, ha, hc, hn, k⟩ := h
    refine ⟨_, pss_one (ps_ost (pv 0) (pv 1)), ?_⟩
    exact ⟨_, rfl, _, rfl, a, C, rfl, hc, hn, .inl ⟨ha, fun dx n ne => k dx n ne⟩⟩
def spMade (cs : List Addr) : Sp := fun vs H Q _ => ∃ (v : V) (b : Bool), vs = [v, .bl b] ∧ ∀ (l : Addr) (as : List Addr) (H' : Hp), Same H H' → H l = none → H' l = some (.lst (as.map V.ref)) → as.length = 12 → (∀ (j : Nat) (a : Addr), as[j]? = some a → ∃ C, cs[j]? = some C ∧ ExAt H' a C v) → Q (.ref l) H'
set_option maxHeartbeats 4000000 in
theorem ok_made {f : Addr} {fd fdI : FuncData} (F : Fun K "_law_made_of" "_law_made_of" s_made_of f fd) (T : Txt K mg fI c0 c1 c2 c3 c4 c5 c6 c7 c8 c9 c10 c11) (GI : FnOk P w K mg base CX0 1 fI fdI ["self", "value"] (spInit K)) (bI : Binds K fdI ["self", "value"] [])
    (bK : ∀ (s : Shared) (a u : Value), BindsTo s fdI ⟨[a], [("value", u)]⟩ ((["self", "value"] : List Str).zip [a, u])) : FnOk P w K mg base CX0 3 f fd ["thing", "is_named"] (spMade [c0, c1, c2, c3, c4, c5, c6, c7, c8, c9, c10, c11]) := by
  refine F.ok sc_made_of (fun vs H Q E h => ?_) (fun cdv A outer s H vs Q E hr h => ?_)
  · obtain ⟨v, b, rfl, _⟩ := h
    rfl
  · obtain ⟨v, b, rfl, k⟩ := h
    have hr1 : Room 2 _ := hr
    refine ⟨_, (pss_cons (ps_if (pt_val (pv 1)) 
        (pss_cons (ps_set (i := 2) sc_made_of.nd rfl (Or.inl rfl) (pe_lst (pa_cons (pe_oexK (T.x_InvalidDays).c (T.x_InvalidDays).i (T.x_InvalidDays).t GI hr1 bK pass0 (by rfl) (T.x_InvalidDays).g (pk_cons (pv 0) pk_nil)) (pa_cons (pe_oexK (T.x_InvalidRule).c (T.x_InvalidRule).i (T.x_InvalidRule).t GI hr1 bK pass0 (by rfl) (T.x_InvalidRule).g (pk_cons (pv 0) pk_nil)) (pa_cons (pe_oexK (T.x_InvalidLength).c (T.x_InvalidLength).i (T.x_InvalidLength).t GI hr1 bK pass0 (by rfl) (T.x_InvalidLength).g (pk_cons (pv 0) pk_nil)) pa_nil)))))
        (pss_cons (ps_set (i := 2) sc_made_of.nd rfl (Or.inl rfl) (pe_op op_cat (pv 2) (pe_lst (pa_cons (pe_oexK (T.x_InvalidNumber).c (T.x_InvalidNumber).i (T.x_InvalidNumber).t GI hr1 bK pass0 (by rfl) (T.x_InvalidNumber).g (pk_cons (pv 0) pk_nil)) (pa_cons (pe_oexK (T.x_InvalidKnown).c (T.x_InvalidKnown).i (T.x_InvalidKnown).t GI hr1 bK pass0 (by rfl) (T.x_InvalidKnown).g (pk_cons (pv 0) pk_nil)) (pa_cons (pe_oexK (T.x_InvalidDay).c (T.x_InvalidDay).i (T.x_InvalidDay).t GI hr1 bK pass0 (by rfl) (T.x_InvalidDay).g (pk_cons (pv 0) pk_nil)) pa_nil))))))
        (pss_cons (ps_set (i := 2) sc_made_of.nd rfl (Or.inl rfl) (pe_op op_cat (pv 2) (pe_lst (pa_cons (pe_oexK (T.x_NoRows).c (T.x_NoRows).i (T.x_NoRows).t GI hr1 bK pass0 (by rfl) (T.x_NoRows).g (pk_cons (pv 0) pk_nil)) (pa_cons (pe_oexK (T.x_Contradiction).c (T.x_Contradiction).i (T.x_Contradiction).t GI hr1 bK pass0 (by rfl) (T.x_Contradiction).g (pk_cons (pv 0) pk_nil)) (pa_cons (pe_oexK (T.x_TooMany).c (T.x_TooMany).i (T.x_TooMany).t GI hr1 bK pass0 (by rfl) (T.x_TooMany).g (pk_cons (pv 0) pk_nil)) pa_nil))))))
        (pss_one (ps_ret (pe_op op_cat (pv 2) (pe_lst (pa_cons (pe_oexK (T.x_NothingToUndo).c (T.x_NothingToUndo).i (T.x_NothingToUndo).t GI hr1 bK pass0 (by rfl) (T.x_NothingToUndo).g (pk_cons (pv 0) pk_nil)) (pa_cons (pe_oexK (T.x_Unreadable).c (T.x_Unreadable).i (T.x_Unreadable).t GI hr1 bK pass0 (by rfl) (T.x_Unreadable).g (pk_cons (pv 0) pk_nil)) (pa_cons (pe_oexK (T.x_SpanError).c (T.x_SpanError).i (T.x_SpanError).t GI hr1 bK pass0 (by rfl) (T.x_SpanError).g (pk_cons (pv 0) pk_nil)) pa_nil)))))))))) pss_nil)
      (pss_cons (ps_set (i := 2) sc_made_of.nd rfl (Or.inl rfl) (pe_lst (pa_cons (pe_oexV (T.x_InvalidDays).c (T.x_InvalidDays).i (T.x_InvalidDays).t GI hr1 bI pass0 (by rfl) (T.x_InvalidDays).g (pa_cons (pv 0) pa_nil)) (pa_cons (pe_oexV (T.x_InvalidRule).c (T.x_InvalidRule).i (T.x_InvalidRule).t GI hr1 bI pass0 (by rfl) (T.x_InvalidRule).g (pa_cons (pv 0) pa_nil)) (pa_cons (pe_oexV (T.x_InvalidLength).c (T.x_InvalidLength).i (T.x_InvalidLength).t GI hr1 bI pass0 (by rfl) (T.x_InvalidLength).g (pa_cons (pv 0) pa_nil)) (pa_cons (pe_oexV (T.x_InvalidNumber).c (T.x_InvalidNumber).i (T.x_InvalidNumber).t GI hr1 bI pass0 (by rfl) (T.x_InvalidNumber).g (pa_cons (pv 0) pa_nil)) (pa_cons (pe_oexV (T.x_InvalidKnown).c (T.x_InvalidKnown).i (T.x_InvalidKnown).t GI hr1 bI pass0 (by rfl) (T.x_InvalidKnown).g (pa_cons (pv 0) pa_nil)) pa_nil)))))))
      (pss_cons (ps_set (i := 2) sc_made_of.nd rfl (Or.inl rfl) (pe_op op_cat (pv 2) (pe_lst (pa_cons (pe_oexV (T.x_InvalidDay).c (T.x_InvalidDay).i (T.x_InvalidDay).t GI hr1 bI pass0 (by rfl) (T.x_InvalidDay).g (pa_cons (pv 0) pa_nil)) (pa_cons (pe_oexV (T.x_NoRows).c (T.x_NoRows).i (T.x_NoRows).t GI hr1 bI pass0 (by rfl) (T.x_NoRows).g (pa_cons (pv 0) pa_nil)) (pa_cons (pe_oexV (T.x_Contradiction).c (T.x_Contradiction).i (T.x_Contradiction).t GI hr1 bI pass0 (by rfl) (T.x_Contradiction).g (pa_cons (pv 0) pa_nil)) (pa_cons (pe_oexV (T.x_TooMany).c (T.x_TooMany).i (T.x_TooMany).t GI hr1 bI pass0 (by rfl) (T.x_TooMany).g (pa_cons (pv 0) pa_nil)) pa_nil)))))))
      (pss_one (ps_ret (pe_op op_cat (pv 2) (pe_lst (pa_cons (pe_oexV (T.x_NothingToUndo).c (T.x_NothingToUndo).i (T.x_NothingToUndo).t GI hr1 bI pass0 (by rfl) (T.x_NothingToUndo).g (pa_cons (pv 0) pa_nil)) (pa_cons (pe_oexV (T.x_Unreadable).c (T.x_Unreadable).i (T.x_Unreadable).t GI hr1 bI pass0 (by rfl) (T.x_Unreadable).g (pa_cons (pv 0) pa_nil)) (pa_cons (pe_oexV (T.x_SpanError).c (T.x_SpanError).i (T.x_SpanError).t GI hr1 bI pass0 (by rfl) (T.x_SpanError).g (pa_cons (pv 0) pa_nil)) pa_nil)))))))))), ?_⟩
    wtm_at "ev_go"
    cases b with
    | true =>
      wtm_at "ev_go"
      refine rd_mk T.x_InvalidDays (fun a0 H0 e0 s0 n0 => ?_)
      wtm_at "ev_go"
      refine rd_mk T.x_InvalidRule (fun a1 H1 e1 s1 n1 => ?_)
      wtm_at "ev_go"
      refine rd_mk T.x_InvalidLength (fun a2 H2 e2 s2 n2 => ?_)
      wtm_at "ev_go"
      intro l0 m0
      wtm_at "ev_go"
      refine rd_mk T.x_InvalidNumber (fun a3 H3 e3 s3 n3 => ?_)
      wtm_at "ev_go"
      refine rd_mk T.x_InvalidKnown (fun a4 H4 e4 s4 n4 => ?_)
      wtm_at "ev_go"
      refine rd_mk T.x_InvalidDay (fun a5 H5 e5 s5 n5 => ?_)
      wtm_at "ev_go"
      intro l1 m1
      wtm_at "ev_go"
      intro l2 m2
      wtm_at "ev_go"
      refine rd_mk T.x_NoRows (fun a6 H6 e6 s6 n6 => ?_)
      wtm_at "ev_go"
      refine rd_mk T.x_Contradiction (fun a7 H7 e7 s7 n7 => ?_)
      wtm_at "ev_go"
      refine rd_mk T.x_TooMany (fun a8 H8 e8 s8 n8 => ?_)
      wtm_at "ev_go"
      intro l3 m3
      wtm_at "ev_go"
      intro l4 m4
      wtm_at "ev_go"
      refine rd_mk T.x_NothingToUndo (fun a9 H9 e9 s9 n9 => ?_)
      wtm_at "ev_go"
      refine rd_mk T.x_Unreadable (fun a10 H10 e10 s10 n10 => ?_)
      wtm_at "ev_go"
      refine rd_mk T.x_SpanError (fun a11 H11 e11 s11 n11 => ?_)
      wtm_at "ev_go"
      intro l5 m5
      wtm_at "ev_go"
      intro l6 m6
      refine k l6 [a0, a1, a2, a3, a4, a5, a6, a7, a8, a9, a10, a11] _ (by wtm_at "ev_sm") ?_ (by wtm_at "ev_lk") rfl ?_
      · exact Same.free (by wtm_at "ev_sm" : Same H _) m6
      · intro j a e
        match j, e with
        | 0, e =>
          cases e
          exact ⟨_, rfl, e0.mono (by wtm_at "ev_sm")⟩
        | 1, e =>
          cases e
          exact ⟨_, rfl, e1.mono (by wtm_at "ev_sm")⟩
        | 2, e =>
          cases e
          exact ⟨_, rfl, e2.mono (by wtm_at "ev_sm")⟩
        | 3, e =>
          cases e
          exact ⟨_, rfl, e3.mono (by wtm_at "ev_sm")⟩
        | 4, e =>
          cases e
          exact ⟨_, rfl, e4.mono (by wtm_at "ev_sm")⟩
        | 5, e =>
          cases e
          exact ⟨_, rfl, e5.mono (by wtm_at "ev_sm")⟩
        | 6, e =>
          cases e
          exact ⟨_, rfl, e6.mono (by wtm_at "ev_sm")⟩
        | 7, e =>
          cases e
          exact ⟨_, rfl, e7.mono (by wtm_at "ev_sm")⟩
        | 8, e =>
          cases e
          exact ⟨_, rfl, e8.mono (by wtm_at "ev_sm")⟩
        | 9, e =>
          cases e
          exact ⟨_, rfl, e9.mono (by wtm_at "ev_sm")⟩
        | 10, e =>
          cases e
          exact ⟨_, rfl, e10.mono (by wtm_at "ev_sm")⟩
        | 11, e =>
          cases e
          exact ⟨_, rfl, e11.mono (by wtm_at "ev_sm")⟩
        | j + 12, e => simp at e
    | false =>
      wtm_at "ev_go"
      refine rd_mk T.x_InvalidDays (fun a0 H0 e0 s0 n0 => ?_)
      wtm_at "ev_go"
      refine rd_mk T.x_InvalidRule (fun a1 H1 e1 s1 n1 => ?_)
      wtm_at "ev_go"
      refine rd_mk T.x_InvalidLength (fun a2 H2 e2 s2 n2 => ?_)
      wtm_at "ev_go"
      refine rd_mk T.x_InvalidNumber (fun a3 H3 e3 s3 n3 => ?_)
      wtm_at "ev_go"
      refine rd_mk T.x_InvalidKnown (fun a4 H4 e4 s4 n4 => ?_)
      wtm_at "ev_go"
      intro l0 m0
      wtm_at "ev_go"
      refine rd_mk T.x_InvalidDay (fun a5 H5 e5 s5 n5 => ?_)
      wtm_at "ev_go"
      refine rd_mk T.x_NoRows (fun a6 H6 e6 s6 n6 => ?_)
      wtm_at "ev_go"
      refine rd_mk T.x_Contradiction (fun a7 H7 e7 s7 n7 => ?_)
      wtm_at "ev_go"
      refine rd_mk T.x_TooMany (fun a8 H8 e8 s8 n8 => ?_)
      wtm_at "ev_go"
      intro l1 m1
      wtm_at "ev_go"
      intro l2 m2
      wtm_at "ev_go"
      refine rd_mk T.x_NothingToUndo (fun a9 H9 e9 s9 n9 => ?_)
      wtm_at "ev_go"
      refine rd_mk T.x_Unreadable (fun a10 H10 e10 s10 n10 => ?_)
      wtm_at "ev_go"
      refine rd_mk T.x_SpanError (fun a11 H11 e11 s11 n11 => ?_)
      wtm_at "ev_go"
      intro l3 m3
      wtm_at "ev_go"
      intro l4 m4
      refine k l4 [a0, a1, a2, a3, a4, a5, a6, a7, a8, a9, a10, a11] _ (by wtm_at "ev_sm") ?_ (by wtm_at "ev_lk") rfl ?_
      · exact Same.free (by wtm_at "ev_sm" : Same H _) m4
      · intro j a e
        match j, e with
        | 0, e =>
          cases e
          exact ⟨_, rfl, e0.mono (by wtm_at "ev_sm")⟩
        | 1, e =>
          cases e
          exact ⟨_, rfl, e1.mono (by wtm_at "ev_sm")⟩
        | 2, e =>
          cases e
          exact ⟨_, rfl, e2.mono (by wtm_at "ev_sm")⟩
        | 3, e =>
          cases e
          exact ⟨_, rfl, e3.mono (by wtm_at "ev_sm")⟩
        | 4, e =>
          cases e
          exact ⟨_, rfl, e4.mono (by wtm_at "ev_sm")⟩
        | 5, e =>
          cases e
          exact ⟨_, rfl, e5.mono (by wtm_at "ev_sm")⟩
        | 6, e =>
          cases e
          exact ⟨_, rfl, e6.mono (by wtm_at "ev_sm")⟩
        | 7, e =>
          cases e
          exact ⟨_, rfl, e7.mono (by wtm_at "ev_sm")⟩
        | 8, e =>
          cases e
          exact ⟨_, rfl, e8.mono (by wtm_at "ev_sm")⟩
        | 9, e =>
          cases e
          exact ⟨_, rfl, e9.mono (by wtm_at "ev_sm")⟩
        | 10, e =>
          cases e
          exact ⟨_, rfl, e10.mono (by wtm_at "ev_sm")⟩
        | 11, e =>
          cases e
          exact ⟨_, rfl, e11.mono (by wtm_at "ev_sm")⟩
        | j + 12, e => simp at e
/-- of which classes an error is -/
def spClasses (K : PySem.W.Frag) (c0 c1 c2 c3 c4 c5 c6 c7 c8 c9 c10 : Addr) : Sp := fun vs H Q _ => ∃ (a C : Addr) (v : V) (b0 b1 b2 b3 b4 b5 b6 b7 b8 b9 b10 : Bool), vs = [.ref a] ∧ ExAt H a C v ∧ ExV K C ∧ PySem.W.kitOne K (.ref C) (.ref c0) = some b0 ∧ PySem.W.kitOne K (.ref C) (.ref c1) = some b1 ∧ PySem.W.kitOne K (.ref C) (.ref c2) = some b2 ∧ PySem.W.kitOne K (.ref C) (.ref c3) = some b3 ∧ PySem.W.kitOne K (.ref C) (.ref c4) = some b4 ∧ PySem.W.kitOne K (.ref C) (.ref c5) = some b5 ∧ PySem.W.kitOne K (.ref C) (.ref c6) = some b6 ∧ PySem.W.kitOne K (.ref C) (.ref c7) = some b7 ∧ PySem.W.kitOne K (.ref C) (.ref c8) = some b8 ∧ PySem.W.kitOne K (.ref C) (.ref c9) = some b9 ∧ PySem.W.kitOne K (.ref C) (.ref c10) = some b10 ∧
  ∀ (l : Addr) (H' : Hp), Same H H' → H' l = some (.lst [.bl b0, .bl b1, .bl b2, .bl b3, .bl b4, .bl b5, .bl b6, .bl b7, .bl b8, .bl b9, .bl b10]) → Q (.ref l) H'
set_option maxHeartbeats 4000000 in
theorem ok_classes {f : Addr} {fd : FuncData} (F : Fun K "_law_classes" "_law_classes" s_classes f fd) (T : Txt K mg fI c0 c1 c2 c3 c4 c5 c6 c7 c8 c9 c10 c11) : FnOk P w K mg base CX0 1 f fd ["caught"] (spClasses K c0 c1 c2 c3 c4 c5 c6 c7 c8 c9 c10) := by
  refine F.ok sc_classes (fun vs H Q E h => ?_) (fun cdv A outer s H vs Q E hr h => ?_)
  · obtain ⟨a, C, v, b0, b1, b2, b3, b4, b5, b6, b7, b8, b9, b10, rfl, _⟩ := h
    rfl
  · obtain ⟨a, C, v, b0, b1, b2, b3, b4, b5, b6, b7, b8, b9, b10, rfl, e, T1, k0, k1, k2, k3, k4, k5, k6, k7, k8, k9, k10, k⟩ := h
    refine ⟨_, (pss_cons (ps_set (i := 1) sc_classes.nd rfl (Or.inl rfl) (pe_lst (pa_cons (pe_callB call_isV (by rfl) T.n_isinstance boot_isinstance (pa_cons (pv 0) (pa_cons (pe_glob (v := .ref _) (by rfl) (T.x_InvalidDays).g rfl) pa_nil))) (pa_cons (pe_callB call_isV (by rfl) T.n_isinstance boot_isinstance (pa_cons (pv 0) (pa_cons (pe_glob (v := .ref _) (by rfl) (T.x_InvalidRule).g rfl) pa_nil))) (pa_cons (pe_callB call_isV (by rfl) T.n_isinstance boot_isinstance (pa_cons (pv 0) (pa_cons (pe_glob (v := .ref _) (by rfl) (T.x_InvalidLength).g rfl) pa_nil))) pa_nil)))))
      (pss_cons (ps_set (i := 1) sc_classes.nd rfl (Or.inl rfl) (pe_op op_cat (pv 1) (pe_lst (pa_cons (pe_callB call_isV (by rfl) T.n_isinstance boot_isinstance (pa_cons (pv 0) (pa_cons (pe_glob (v := .ref _) (by rfl) (T.x_InvalidNumber).g rfl) pa_nil))) (pa_cons (pe_callB call_isV (by rfl) T.n_isinstance boot_isinstance (pa_cons (pv 0) (pa_cons (pe_glob (v := .ref _) (by rfl) (T.x_InvalidKnown).g rfl) pa_nil))) pa_nil)))))
      (pss_cons (ps_set (i := 1) sc_classes.nd rfl (Or.inl rfl) (pe_op op_cat (pv 1) (pe_lst (pa_cons (pe_callB call_isV (by rfl) T.n_isinstance boot_isinstance (pa_cons (pv 0) (pa_cons (pe_glob (v := .ref _) (by rfl) (T.x_InvalidDay).g rfl) pa_nil))) (pa_cons (pe_callB call_isV (by rfl) T.n_isinstance boot_isinstance (pa_cons (pv 0) (pa_cons (pe_glob (v := .ref _) (by rfl) (T.x_NoRows).g rfl) pa_nil))) (pa_cons (pe_callB call_isV (by rfl) T.n_isinstance boot_isinstance (pa_cons (pv 0) (pa_cons (pe_glob (v := .ref _) (by rfl) (T.x_Contradiction).g rfl) pa_nil))) pa_nil))))))
      (pss_cons (ps_set (i := 1) sc_classes.nd rfl (Or.inl rfl) (pe_op op_cat (pv 1) (pe_lst (pa_cons (pe_callB call_isV (by rfl) T.n_isinstance boot_isinstance (pa_cons (pv 0) (pa_cons (pe_glob (v := .ref _) (by rfl) (T.x_TooMany).g rfl) pa_nil))) (pa_cons (pe_callB call_isV (by rfl) T.n_isinstance boot_isinstance (pa_cons (pv 0) (pa_cons (pe_glob (v := .ref _) (by rfl) (T.x_NothingToUndo).g rfl) pa_nil))) pa_nil)))))
      (pss_one (ps_ret (pe_op op_cat (pv 1) (pe_lst (pa_cons (pe_callB call_isV (by rfl) T.n_isinstance boot_isinstance (pa_cons (pv 0) (pa_cons (pe_glob (v := .ref _) (by rfl) (T.x_Unreadable).g rfl) pa_nil))) pa_nil))))))))), ?_⟩
    wtm_at "ev_go"
    refine rd_isV (e.mono (by wtm_at "ev_sm")) T1 (.own _) k0 ?_
    wtm_at "ev_go"
    refine rd_isV (e.mono (by wtm_at "ev_sm")) T1 (.own _) k1 ?_
    wtm_at "ev_go"
    refine rd_isV (e.mono (by wtm_at "ev_sm")) T1 (.own _) k2 ?_
    wtm_at "ev_go"
    intro l0 m0
    wtm_at "ev_go"
    refine rd_isV (e.mono (by wtm_at "ev_sm")) T1 (.own _) k3 ?_
    wtm_at "ev_go"
    refine rd_isV (e.mono (by wtm_at "ev_sm")) T1 (.own _) k4 ?_
    wtm_at "ev_go"
    intro l1 m1
    wtm_at "ev_go"
    intro l2 m2
    wtm_at "ev_go"
    refine rd_isV (e.mono (by wtm_at "ev_sm")) T1 (.own _) k5 ?_
    wtm_at "ev_go"
    refine rd_isV (e.mono (by wtm_at "ev_sm")) T1 (.own _) k6 ?_
    wtm_at "ev_go"
    refine rd_isV (e.mono (by wtm_at "ev_sm")) T1 (.own _) k7 ?_
    wtm_at "ev_go"
    intro l3 m3
    wtm_at "ev_go"
    intro l4 m4
    wtm_at "ev_go"
    refine rd_isV (e.mono (by wtm_at "ev_sm")) T1 (.own _) k8 ?_
    wtm_at "ev_go"
    refine rd_isV (e.mono (by wtm_at "ev_sm")) T1 (.own _) k9 ?_
    wtm_at "ev_go"
    intro l5 m5
    wtm_at "ev_go"
    intro l6 m6
    wtm_at "ev_go"
    refine rd_isV (e.mono (by wtm_at "ev_sm")) T1 (.own _) k10 ?_
    wtm_at "ev_go"
    intro l7 m7
    wtm_at "ev_go"
    intro l8 m8
    exact k l8 _ (by wtm_at "ev_sm") (by wtm_at "ev_lk")
/-- the classes as they stand to each other -/
theorem rows (T : Txt K mg fI c0 c1 c2 c3 c4 c5 c6 c7 c8 c9 c10 c11) : ∀ (j : Nat) (C : Addr), ([c0, c1, c2, c3, c4, c5, c6, c7, c8, c9, c10, c11] : List Addr)[j]? = some C → (∃ x, ExT K mg x C fI) ∧ PySem.W.kitOne K (.ref C) (.ref c0) = some (decide (j = 0)) ∧ PySem.W.kitOne K (.ref C) (.ref c1) = some (decide (j = 1)) ∧ PySem.W.kitOne K (.ref C) (.ref c2) = some (decide (j = 2)) ∧ PySem.W.kitOne K (.ref C) (.ref c3) = some (decide (j = 3)) ∧ PySem.W.kitOne K (.ref C) (.ref c4) = some (decide (j = 4)) ∧ PySem.W.kitOne K (.ref C) (.ref c5) = some (decide (j = 5)) ∧ PySem.W.kitOne K (.ref C) (.ref c6) = some (decide (j = 6)) ∧ PySem.W.kitOne K (.ref C) (.ref c7) = some (decide (j = 7)) ∧ PySem.W.kitOne K (.ref C) (.ref c8) = some (decide (j = 8)) ∧ PySem.W.kitOne K (.ref C) (.ref c9) = some (decide (j = 9)) ∧ PySem.W.kitOne K (.ref C) (.ref c10) = some (decide (j = 10)) ∧ PySem.W.kitOne K (.ref C) (.ref c11) = some true ∧ PySem.W.kitOne K (.ref C) (.type "ValueError") = some true := by
  intro j C e
  match j, e with
  | 0, e =>
    cases e
    exact ⟨⟨_, T.x_InvalidDays⟩, T.k_0_0, T.k_0_1, T.k_0_2, T.k_0_3, T.k_0_4, T.k_0_5, T.k_0_6, T.k_0_7, T.k_0_8, T.k_0_9, T.k_0_10, T.k_0_11, T.k_0_v⟩
  | 1, e =>
    cases e
    exact ⟨⟨_, T.x_InvalidRule⟩, T.k_1_0, T.k_1_1, T.k_1_2, T.k_1_3, T.k_1_4, T.k_1_5, T.k_1_6, T.k_1_7, T.k_1_8, T.k_1_9, T.k_1_10, T.k_1_11, T.k_1_v⟩
  | 2, e =>
    cases e
    exact ⟨⟨_, T.x_InvalidLength⟩, T.k_2_0, T.k_2_1, T.k_2_2, T.k_2_3, T.k_2_4, T.k_2_5, T.k_2_6, T.k_2_7, T.k_2_8, T.k_2_9, T.k_2_10, T.k_2_11, T.k_2_v⟩
  | 3, e =>
    cases e
    exact ⟨⟨_, T.x_InvalidNumber⟩, T.k_3_0, T.k_3_1, T.k_3_2, T.k_3_3, T.k_3_4, T.k_3_5, T.k_3_6, T.k_3_7, T.k_3_8, T.k_3_9, T.k_3_10, T.k_3_11, T.k_3_v⟩
  | 4, e =>
    cases e
    exact ⟨⟨_, T.x_InvalidKnown⟩, T.k_4_0, T.k_4_1, T.k_4_2, T.k_4_3, T.k_4_4, T.k_4_5, T.k_4_6, T.k_4_7, T.k_4_8, T.k_4_9, T.k_4_10, T.k_4_11, T.k_4_v⟩
  | 5, e =>
    cases e
    exact ⟨⟨_, T.x_InvalidDay⟩, T.k_5_0, T.k_5_1, T.k_5_2, T.k_5_3, T.k_5_4, T.k_5_5, T.k_5_6, T.k_5_7, T.k_5_8, T.k_5_9, T.k_5_10, T.k_5_11, T.k_5_v⟩
  | 6, e =>
    cases e
    exact ⟨⟨_, T.x_NoRows⟩, T.k_6_0, T.k_6_1, T.k_6_2, T.k_6_3, T.k_6_4, T.k_6_5, T.k_6_6, T.k_6_7, T.k_6_8, T.k_6_9, T.k_6_10, T.k_6_11, T.k_6_v⟩
  | 7, e =>
    cases e
    exact ⟨⟨_, T.x_Contradiction⟩, T.k_7_0, T.k_7_1, T.k_7_2, T.k_7_3, T.k_7_4, T.k_7_5, T.k_7_6, T.k_7_7, T.k_7_8, T.k_7_9, T.k_7_10, T.k_7_11, T.k_7_v⟩
  | 8, e =>
    cases e
    exact ⟨⟨_, T.x_TooMany⟩, T.k_8_0, T.k_8_1, T.k_8_2, T.k_8_3, T.k_8_4, T.k_8_5, T.k_8_6, T.k_8_7, T.k_8_8, T.k_8_9, T.k_8_10, T.k_8_11, T.k_8_v⟩
  | 9, e =>
    cases e
    exact ⟨⟨_, T.x_NothingToUndo⟩, T.k_9_0, T.k_9_1, T.k_9_2, T.k_9_3, T.k_9_4, T.k_9_5, T.k_9_6, T.k_9_7, T.k_9_8, T.k_9_9, T.k_9_10, T.k_9_11, T.k_9_v⟩
  | 10, e =>
    cases e
    exact ⟨⟨_, T.x_Unreadable⟩, T.k_10_0, T.k_10_1, T.k_10_2, T.k_10_3, T.k_10_4, T.k_10_5, T.k_10_6, T.k_10_7, T.k_10_8, T.k_10_9, T.k_10_10, T.k_10_11, T.k_10_v⟩
  | 11, e =>
    cases e
    exact ⟨⟨_, T.x_SpanError⟩, T.k_11_0, T.k_11_1, T.k_11_2, T.k_11_3, T.k_11_4, T.k_11_5, T.k_11_6, T.k_11_7, T.k_11_8, T.k_11_9, T.k_11_10, T.k_11_11, T.k_11_v⟩
  | j + 12, e => simp at e
/-- what stands keeps standing, but at p -/
def Fr (p : Addr) (H H' : Hp) : Prop := ∀ b o, H b = some o → b ≠ p → H' b = some o
theorem Fr.trans {p : Addr} {H H1 H2 : Hp} (h : Fr p H H1) (g : Fr p H1 H2) : Fr p H H2 := fun b o z n => g b o (h b o z n) n
theorem Fr.same {p : Addr} {H H1 H2 : Hp} (h : Fr p H H1) (g : Same H1 H2) : Fr p H H2 := fun b o z n => g b o (h b o z n)
theorem Fr.put {p : Addr} {H H1 : Hp} {x : HO} (h : Fr p H H1) : Fr p H (upd H1 p x) := fun b o z n => lk_ne n (h b o z n)
theorem Fr.new {p a : Addr} {H H1 : Hp} {x : HO} (h : Fr p H H1) (e : H a = none) : Fr p H (upd H1 a x) := fun b o z n => lk_ne (ne_of_none z e) (h b o z n)
def spRight : Sp := fun vs H Q _ => ∃ (p : Addr) (L : List V), vs = [.ref p] ∧ H p = some (.lst L) ∧ PoolL L 0 ∧ ∀ H', Fr p H H' → Q (.bl true) H'
set_option maxHeartbeats 4000000 in
theorem rd_neB {K : PySem.W.Frag} {H : Hp} {Q : VK} {a b : Addr} (b0 b1 b2 b3 b4 b5 b6 b7 b8 b9 b10 : Bool) (ha : SqL K H a [.bl b0, .bl b1, .bl b2, .bl b3, .bl b4, .bl b5, .bl b6, .bl b7, .bl b8, .bl b9, .bl b10]) (hb : SqL K H b [.bl b0, .bl b1, .bl b2, .bl b3, .bl b4, .bl b5, .bl b6, .bl b7, .bl b8, .bl b9, .bl b10]) (q : Q (.bl false) H) : rNeD K (.ref a) (.ref b) H Q := by
  have D : ∀ x, SqL K H x [.bl b0, .bl b1, .bl b2, .bl b3, .bl b4, .bl b5, .bl b6, .bl b7, .bl b8, .bl b9, .bl b10] → Dp K H (.ref x) (.list [.bool b0, .bool b1, .bool b2, .bool b3, .bool b4, .bool b5, .bool b6, .bool b7, .bool b8, .bool b9, .bool b10]) := fun x h => .lst h (DpAll.cons (.bl _) (DpAll.cons (.bl _) (DpAll.cons (.bl _) (DpAll.cons (.bl _) (DpAll.cons (.bl _) (DpAll.cons (.bl _) (DpAll.cons (.bl _) (DpAll.cons (.bl _) (DpAll.cons (.bl _) (DpAll.cons (.bl _) (DpAll.cons (.bl _) DpAll.nil)))))))))))
  refine ⟨_, _, D a ha, D b hb, rfl, rfl, ?_⟩
  rw [SeqAt.eqv_refl _ rfl]
  exact q
theorem ok_right {f : Addr} {fd : FuncData} (F : Fun K "_law_right" "_law_right" s_right f fd) (T : Txt K mg fI c0 c1 c2 c3 c4 c5 c6 c7 c8 c9 c10 c11) (GD : CalN P w K mg base 1 "_law_draw" spDraw) (GT : CalN P w K mg base 2 "_law_thing" spThing)
    (GM : CalN P w K mg base 3 "_law_made_of" (spMade [c0, c1, c2, c3, c4, c5, c6, c7, c8, c9, c10, c11])) (GC : CalN P w K mg base 1 "_law_classes" (spClasses K c0 c1 c2 c3 c4 c5 c6 c7 c8 c9 c10)) : FnG P w K mg base CX0 4 f fd ["pool"] spRight := by
  refine fnG_of F sc_right (fun vs H Q E h => ?_) (fun cdv A outer s H vs Q E hgu hr h => ?_)
  · obtain ⟨p, L, rfl, _⟩ := h
    rfl
  · obtain ⟨p, L, rfl, hp, hL, k⟩ := h
    refine ⟨_, (pss_cons (ps_for PassesOwn.never rfl (pi_tup (pe_tup (pa_cons pe_bl (pa_cons pe_bl pa_nil)))) (pg_name (i := 1) sc_right.nd rfl (Or.inl rfl)) 
        (pss_cons (ps_set (i := 2) sc_right.nd rfl (Or.inl rfl) (pe_cN GT hr (by decide) (by rfl) (pa_cons (pv 0) pa_nil)))
        (pss_cons (ps_set (i := 3) sc_right.nd rfl (Or.inl rfl) (pe_cN GM hr (by decide) (by rfl) (pa_cons (pv 2) (pa_cons (pv 1) pa_nil))))
        (C8.pss_cut (ps_if (pt_val (pe_callB call_isi (by rfl) T.n_isinstance boot_isinstance (pa_cons (pv 2) (pa_cons (pe_bltn (v := .ty "list") (by rfl) T.n_list (by decide +kernel) rfl) pa_nil)))) 
          (pss_one (ps_expr (pe_bm PySem.F.plainAttrs_list PySem.F.slot_list_append PySem.F.type_list_append mt_append (pv 2) (pa_cons (pe_cN GD hr (by decide) (by rfl) (pa_cons (pv 0) (pa_cons pe_int pa_nil))) pa_nil)))) pss_nil)
        (pss_one (ps_for PassesOwn.never rfl (pi_range1 (by rfl) T.n_range (pa_cons pe_int pa_nil)) (pg_name (i := 4) sc_right.nd rfl (Or.inr rfl)) 
          (pss_cons (ps_setLc (i := 5) (own := [("at", 6)]) (g := gName 6) (tt := tYes) rfl sc_right.nd rfl rfl (sw_true rfl rfl rfl (by decide +kernel)) (pi_range1 (by rfl) T.n_range (pa_cons pe_int pa_nil)) (blkOk_by (N := ["pool", "is_named", "thing", "made", "spot", "due", "at"]) (sc := defScope s_right) (by decide +kernel)) (fun _ _ _ _ _ => pg_name (i := 6) sc_right.nd rfl (Or.inl rfl)) (fun _ _ _ _ _ => pts_nil) (fun _ _ _ _ _ => (pe_cmpR op_eq (pv 4) (pv 6) (nomark _))))
          (pss_cons (ps_if (pw_or (pt_cmpR op_ne (pe_callB (call_repr_data hgu (hun hr)) (by rfl) T.n_repr boot_repr (pa_cons (pe_xv (pe_ix ix_list (pv 3) (pv 4) (fun _ _ => rfl))) pa_nil)) (pe_callB (call_repr_data hgu (hun hr)) (by rfl) T.n_repr boot_repr (pa_cons (pv 2) pa_nil)) (nomark _)) (pw_or1 (pt_cmpR (op_neD (hun64 hr)) (pe_cN GC hr (by decide) (by rfl) (pa_cons (pe_ix ix_list (pv 3) (pv 4) (fun _ _ => rfl)) pa_nil)) (pv 5) (nomark _)))).pt 
            (pss_one (ps_ret pe_bl)) pss_nil)
          (pss_one (ps_if (pw_or (pt_not (pt_val (pe_callB call_isV (by rfl) T.n_isinstance boot_isinstance (pa_cons (pe_ix ix_list (pv 3) (pv 4) (fun _ _ => rfl)) (pa_cons (pe_glob (v := .ref _) (by rfl) (T.x_SpanError).g rfl) pa_nil))))) (pw_or1 (pt_not (pt_val (pe_callB call_isV (by rfl) T.n_isinstance boot_isinstance (pa_cons (pe_ix ix_list (pv 3) (pv 4) (fun _ _ => rfl)) (pa_cons (pe_bltn (v := .ty "ValueError") (by rfl) T.n_ValueError (by decide +kernel) rfl) pa_nil))))))).pt 
            (pss_one (ps_ret pe_bl)) pss_nil))))))))))
      (pss_one (ps_ret pe_bl))), ?_⟩
    wtm_at "ev_go"
    intro t ht
    have tp : t ≠ p := (ne_of_none hp ht).symm
    wtm_at "ev_go"
    refine rd_forT (xs := [.bl true, .bl false]) (fun i σ H2 => ∃ (x1 x2 x3 x4 x5 x6 : Option V) (L2 : List V), σ = [some (.ref p), x1, x2, x3, x4, x5, x6] ∧ H2 p = some (.lst L2) ∧ PoolL L2 ((i : Int) * 10) ∧ H2 t = some (.tup [.bl true, .bl false]) ∧ Fr p H H2)
      ⟨_, _, _, _, _, _, L, rfl, by wtm_at "ev_lk", hL.le (by omega), upd_same, fun b o z _ => Same.new ht b o z⟩ (fun i σ H2 _ h => by obtain ⟨_, _, _, _, _, _, _, _, _, _, z, _⟩ := h; exact SqT.of z) ?_ ?_
    · rintro i x σ H2 hx ⟨x1, x2, x3, x4, x5, x6, L2, rfl, hp2, hL2, ht2, fr2⟩
      have hi : i < 2 := (List.getElem?_eq_some_iff.mp hx).1
      obtain ⟨b, rfl⟩ : ∃ b, x = V.bl b := by
        match i, hx with
        | 0, hx => exact ⟨true, (Option.some.inj hx).symm⟩
        | 1, hx => exact ⟨false, (Option.some.inj hx).symm⟩
      wtm_at "ev_go"
      refine ⟨p, L2, _, rfl, hp2, hL2, by omega, fun v H3 L3 th nv hp3 hL3 fr vn => ?_⟩
      have hv : ∀ a, v = .ref a → H a = none := fun a e => by
        cases h : H a with
        | none => rfl
        | some o =>
          have z := fr2 _ _ h (fun z => nv (z ▸ e))
          rw [vn a e] at z
          cases z
      have ht3 : H3 t = some (.tup [.bl true, .bl false]) := fr _ _ ht2 tp
      wtm_at "ev_go"
      refine ⟨v, b, rfl, fun l as H4 s4 nl hl len hall => ?_⟩
      have ht4 := s4 _ _ ht3
      have hp4 := s4 _ _ hp3
      have fr4 : Fr p H H4 := (fr2.trans fr).same s4
      have th4 : Thing H4 1 v := th.mono fun a o _ z => s4 _ _ z
      refine ⟨fun σ' H5 => ∃ (x4 x5 x6 : Option V) (L5 : List V), σ' = [some (.ref p), some (.bl b), some v, some (.ref l), x4, x5, x6] ∧ H5 p = some (.lst L5) ∧ PoolL L5 ((i : Int) * 10 + 6) ∧ H5 t = some (.tup [.bl true, .bl false]) ∧ H5 l = some (.lst (as.map V.ref)) ∧
        (∀ (j : Nat) (a : Addr), as[j]? = some a → ∃ C, ([c0, c1, c2, c3, c4, c5, c6, c7, c8, c9, c10, c11] : List Addr)[j]? = some C ∧ ExAt H5 a C v) ∧ Thing H5 2 v ∧ Fr p H H5, ?_, ?_⟩
      · wtm_at "ev_go"
        cases th4 with
        | int z h1 h2 =>
          refine rd_isi (.ty _) (.base (.int _)) (kit_ty (by decide +kernel : _ = some false)) ?_
          wtm_at "ev_go"
          exact ⟨_, _, _, L3, rfl, hp4, hL3.le (by omega), ht4, hl, hall, .int z h1 h2, fr4⟩
        | tup z h h1 h2 =>
          refine rd_isi (.ty _) (.base (.tup h)) (kit_ty (by decide +kernel : _ = some false)) ?_
          wtm_at "ev_go"
          exact ⟨_, _, _, L3, rfl, hp4, hL3.le (by omega), ht4, hl, hall, .tup z h h1 h2, fr4⟩
        | @lst a is h h1 h2 =>
          have na : a ≠ p := fun z => nv (congrArg V.ref z)
          refine rd_isi (.ty _) (.base (.lst h)) (kit_ty (by decide +kernel : _ = some true)) ?_
          wtm_at "ev_go"
          refine rd_draw (by wtm_at "ev_lk") hL3 (by omega) (by decide) (by decide +kernel) (fun d L5 a5 b5 hL5 => ?_)
          wtm_at "ev_go"
          refine rd_append (by wtm_at "ev_lk") (by rw [List.length_map]; omega) ?_
          wtm_at "ev_go"
          have np : p ≠ a := na.symm
          have nt : t ≠ a := ne_of ht4 h (fun z => by cases z)
          have nla : l ≠ a := by
            intro z
            subst z
            cases th with
            | tup _ h3 _ _ => (rw [h3] at nl; cases nl)
            | lst _ h3 _ _ => (rw [h3] at nl; cases nl)
          have nlp : l ≠ p := (ne_of_none hp3 nl).symm
          refine ⟨_, _, _, L5, rfl, by wtm_at "ev_lk", hL5.le (by omega), by wtm_at "ev_lk", by wtm_at "ev_lk", fun j e he => ?_, .lst (is ++ [d]) ?_ (by rw [List.length_append]; exact Nat.add_le_add_right h1 1) (fun z hz => ?_), (fr4.put).new (hv a rfl)⟩
          · obtain ⟨C, hC, hE⟩ := hall j e he
            exact ⟨C, hC, (hE.put hp4).put (lk_ne na h)⟩
          · rw [List.map_append]
            exact upd_same
          · rcases List.mem_append.mp hz with hz | hz
            · exact h2 z hz
            · rw [List.mem_singleton.mp hz]
              exact ⟨a5, b5⟩
        | non =>
          refine rd_isi (.ty _) (.base .non) (kit_ty (by decide +kernel : _ = some false)) ?_
          wtm_at "ev_go"
          exact ⟨_, _, _, L3, rfl, hp4, hL3.le (by omega), ht4, hl, hall, .non, fr4⟩
        | str z h =>
          refine rd_isi (.ty _) (.base (.str _)) (kit_ty (by decide +kernel : _ = some false)) ?_
          wtm_at "ev_go"
          exact ⟨_, _, _, L3, rfl, hp4, hL3.le (by omega), ht4, hl, hall, .str z h, fr4⟩
      · rintro σ' H5 ⟨y4, y5, y6, L5, rfl, hp5, hL5, ht5, hl5, hall5, th5, fr5⟩
        wtm_at "ev_go"
        refine rd_forR (n := 12) (fun j σ' H5 => ∃ (x4 x5 x6 : Option V) (L5 : List V), σ' = [some (.ref p), some (.bl b), some v, some (.ref l), x4, x5, x6] ∧ H5 p = some (.lst L5) ∧ PoolL L5 ((i : Int) * 10 + 6) ∧ H5 t = some (.tup [.bl true, .bl false]) ∧ H5 l = some (.lst (as.map V.ref)) ∧
          (∀ (j : Nat) (a : Addr), as[j]? = some a → ∃ C, ([c0, c1, c2, c3, c4, c5, c6, c7, c8, c9, c10, c11] : List Addr)[j]? = some C ∧ ExAt H5 a C v) ∧ Thing H5 2 v ∧ Fr p H H5) ⟨_, _, _, L5, rfl, hp5, hL5, ht5, hl5, hall5, th5, fr5⟩ ?_ ?_
        · clear hp5 hL5 ht5 hl5 hall5 th5 fr5 H5 L5
          rintro j σ' H5 hj ⟨z4, z5, z6, L5, rfl, hp5, hL5, ht5, hl5, hall5, th5, fr5⟩
          have hja : j < as.length := by omega
          obtain ⟨a, ha⟩ : ∃ a, as[j]? = some a := ⟨as[j], List.getElem?_eq_getElem hja⟩
          obtain ⟨C, hC, hE⟩ := hall5 j a ha
          obtain ⟨⟨x, TX⟩, k0, k1, k2, k3, k4, k5, k6, k7, k8, k9, k10, kS, kV⟩ := rows T j C hC
          have hat : atI (as.map V.ref) (0 + (j : Int)) = some (.ref a) := by
            rw [Int.zero_add]
            exact atI_nat (by rw [List.getElem?_map, ha]; rfl)
          wtm_at "ev_go"
          refine rd_lcN (n := 11) (fun i => .bl (decide (j = i))) (by decide) (fun i H' Q' hi q => ?_) (fun l2 hl2 => ?_)
          · wtm_at "ev_go"
            have e : decide (V.int (0 + (j : Int)) = V.int (0 + (i : Int))) = decide (j = i) := decide_eq_decide.mpr ⟨fun z => by injection z with z; omega, fun z => by rw [z]⟩
            rw [e]
            exact q
          have nl2 : Same H5 (upd H5 l2 (.lst ((List.range 11).map fun i => V.bl (decide (j = i))))) := Same.new hl2
          wtm_at "ev_go"
          refine rd_ixL (by wtm_at "ev_sq") hat ?_
          wtm_at "ev_go"
          refine rd_value (hE.mono nl2) TX ?_
          wtm_at "ev_go"
          obtain ⟨d, dp, ds, dn, dd, dz⟩ := (th5.mono fun a o _ z => nl2 _ _ z).dp (K := K)
          refine rd_repr dp ds dn dd dz ?_
          wtm_at "ev_go"
          refine rd_repr dp ds dn dd dz ?_
          wtm_at "ev_go"
          refine rd_iteN (fun h => absurd trivial h) (fun _ => ?_)
          wtm_at "ev_go"
          refine rd_ixL (by wtm_at "ev_sq") hat ?_
          wtm_at "ev_go"
          refine ⟨a, C, v, _, _, _, _, _, _, _, _, _, _, _, rfl, hE.mono nl2, TX.v, k0, k1, k2, k3, k4, k5, k6, k7, k8, k9, k10, fun l3 H7 s7 hl3 => ?_⟩
          wtm_at "ev_go"
          refine rd_neB (decide (j = 0)) (decide (j = 1)) (decide (j = 2)) (decide (j = 3)) (decide (j = 4)) (decide (j = 5)) (decide (j = 6)) (decide (j = 7)) (decide (j = 8)) (decide (j = 9)) (decide (j = 10)) (SqL.of hl3) (SqL.of (s7 _ _ upd_same)) ?_
          wtm_at "ev_go"
          have s57 : Same H5 H7 := nl2.trans s7
          have hl7 := s57 _ _ hl5
          refine rd_ixL (by wtm_at "ev_sq") hat ?_
          wtm_at "ev_go"
          refine rd_isV (hE.mono s57) TX.v (.own _) kS ?_
          wtm_at "ev_go"
          rw [if_neg (by decide : ¬ (!true) = true)]
          wtm_at "ev_go"
          refine rd_ixL (by wtm_at "ev_sq") hat ?_
          wtm_at "ev_go"
          refine rd_isV (hE.mono s57) TX.v (.ty _) kV ?_
          wtm_at "ev_go"
          rw [if_neg (by decide : ¬ (!true) = true)]
          wtm_at "ev_go"
          exact ⟨_, _, _, L5, rfl, s57 _ _ hp5, hL5, s57 _ _ ht5, hl7, fun j e he => by obtain ⟨C, hC, hE⟩ := hall5 j e he; exact ⟨C, hC, hE.mono s57⟩, th5.mono fun a o _ z => s57 _ _ z, fr5.same s57⟩
        · rintro σ' H6 ⟨z4, z5, z6, L6, rfl, hp6, hL6, ht6, hl6, hall6, th6, fr6⟩
          exact ⟨_, _, _, _, _, _, L6, rfl, hp6, hL6.le (by rw [Int.natCast_add]; omega), ht6, fr6⟩
    · rintro σ' H6 ⟨z1, z2, z3, z4, z5, z6, L6, rfl, hp6, hL6, ht6, fr6⟩
      wtm_at "ev_go"
      exact k H6 fr6
end
/-! ### the law itself -/
theorem sqL_same {K : PySem.W.Frag} {H H' : Hp} {a : Addr} {xs : List V} (h : SqL K H a xs) (e : Same H H') : SqL K H' a xs :=
  h.elim (fun h => .inl (h.elim (fun h => .inl (e _ _ h)) fun ⟨o, h⟩ => .inr ⟨o, e _ _ h⟩)) fun h => .inr h
def spLaw (K : PySem.W.Frag) : Sp := fun vs H Q _ => ∃ (a : Addr) (ns : List Int), vs = [.ref a] ∧ SqL K H a (ns.map V.int) ∧ ns.length ≤ 63 ∧ ∀ H', Q (.bl true) H'
section
variable {P : Program} {w : World} {K : PySem.W.Frag} {mg : Str → Option Value} {base : Heap} {fI c0 c1 c2 c3 c4 c5 c6 c7 c8 c9 c10 c11 : Addr}
theorem ok_law {f : Addr} {fd : FuncData} (F : Fun K "law" "law" s_law f fd) (T : Txt K mg fI c0 c1 c2 c3 c4 c5 c6 c7 c8 c9 c10 c11) (GP : CalN P w K mg base 1 "_law_pool" (spPool K)) (GR : CalG P w K mg base 4 "_law_right" spRight) : FnG P w K mg base CX0 5 f fd ["script"] (spLaw K) := by
  refine fnG_of F sc_law (fun vs H Q E h => ?_) (fun cdv A outer s H vs Q E hgu hr h => ?_)
  · obtain ⟨a, ns, rfl, _⟩ := h
    rfl
  · obtain ⟨a, ns, rfl, hS, hn, k⟩ := h
    refine ⟨_, (pss_cons (ps_for PassesOwn.never rfl (pi_range1 (by rfl) T.n_range (pa_cons (pe_callB (call_max2 rfl) (by rfl) T.n_max boot_max (pa_cons pe_int (pa_cons (pe_callB (call_min2 rfl) (by rfl) T.n_min boot_min (pa_cons pe_int (pa_cons (pe_callB call_len_seq (by rfl) T.n_len PySem.boot_len (pa_cons (pv 0) pa_nil)) pa_nil))) pa_nil))) pa_nil)) (pg_name (i := 1) sc_law.nd rfl (Or.inl rfl)) 
        (pss_cons (ps_set (i := 2) sc_law.nd rfl (Or.inl rfl) (pe_cN GP hr (by decide) (by rfl) (pa_cons (pv 0) (pa_cons (pv 1) pa_nil))))
        (pss_one (ps_for PassesOwn.never rfl (pi_range1 (by rfl) T.n_range (pa_cons pe_int pa_nil)) (pg_name (i := 3) sc_law.nd rfl (Or.inl rfl)) 
          (pss_one (ps_if (pt_not (pt_val (pe_cG GR hr (by decide) hgu (by rfl) (pa_cons (pv 2) pa_nil)))) 
            (pss_one (ps_ret pe_bl)) pss_nil))))))
      (pss_one (ps_ret pe_bl))), ?_⟩
    wtm_at "ev_go"
    generalize e : Int.toNat _ = n
    have n6 : n ≤ 6 := by
      rw [← e]
      generalize ((ns.map V.int).length : Int) = z
      by_cases z6 : z < 6
      · rw [if_pos z6]
        by_cases z1 : z > 1
        · rw [if_pos z1]
          omega
        · rw [if_neg z1]
          decide
      · rw [if_neg z6]
        decide
    clear e
    refine rd_forR (fun i σ H2 => ∃ (x1 x2 x3 : Option V), σ = [some (.ref a), x1, x2, x3] ∧ SqL K H2 a (ns.map V.int)) ⟨_, _, _, rfl, hS⟩ ?_ ?_
    · rintro i σ H2 hi ⟨x1, x2, x3, rfl, hS2⟩
      wtm_at "ev_go"
      refine ⟨a, ns, _, rfl, hS2, by omega, by omega, fun p L np hL => ?_⟩
      wtm_at "ev_go"
      refine rd_forR (fun j σ' H' => ∃ x3 : Option V, σ' = [some (.ref a), some (.int (0 + (i : Int))), some (.ref p), x3] ∧ Same H2 H' ∧ (j = 0 → H' p = some (.lst L))) ⟨_, rfl, fun b o z => Same.new np b o z, fun _ => upd_same⟩ ?_ ?_
      · rintro j σ' H' hj ⟨x3, rfl, ex, hp⟩
        have hj0 : j = 0 := by omega
        have hp' := hp hj0
        wtm_at "ev_go"
        refine ⟨p, L, rfl, hp', hL, fun H3 fr => ?_⟩
        wtm_at "ev_go"
        exact ⟨_, rfl, fun b o z => fr b o (ex b o z) (ne_of_none z np), fun z => absurd z (by omega)⟩
      · rintro σ' H' ⟨x3, rfl, ex, _⟩
        exact ⟨_, _, _, rfl, sqL_same hS2 ex⟩
    · rintro σ' H' ⟨x1, x2, x3, rfl, _⟩
      wtm_at "ev_go"
      exact k H'
end
end Ev

namespace Ev
open PySem PySem.Spec PyProof.Rows L2
/-! ### the end: what the written part says -/
theorem cls_mk {K : PySem.W.Frag} {h : Heap} {mg : Str → Option Value} {x : Str} {C fI : Addr} {nm q : Str} {N : Addr} {bs bm : List Value} {sl : List Str} {sub : List Value} {ab : Bool} {col : Option Bool} {dd : Option Addr} {m0 m1 m2 m3 m5 : Option Value} (X : K.In h) (G : h.Ns mainGlobals mg)
    (a : PySem.W.nsIn K mainGlobals x = some (some (.ref C)))
    (xl : K.lookup C = some (excClassObj nm q C N bs bm true sl sub ab col dd m0 m1 m2 m3 m5 "ValueError.__new__"))
    (rb : PySem.HandSPX.refsVE bm = true)
    (sa : PySem.W.findIn K (.ref C) "__setattr__" = some (some (.builtin "object.__setattr__")))
    (ec : PySem.W.subIn K (.ref C) (.type "BaseException") = some true)
    (ty : PySem.W.typeIn K (.ref C) = some (.type "type"))
    (kc : PySem.W.keepIn K (.ref C) = true)
    (i : PySem.W.findIn K (.ref C) "__init__" = some (some (.ref fI)))
    (t : PySem.W.typeIn K (.ref fI) = some (.type "function"))
    (ga : PySem.W.findIn K (.ref C) "__getattribute__" = some (some (.builtin "BaseException.__getattribute__")))
    (gg : PySem.W.findIn K (.ref C) "__getattr__" = some none)
    (hd : PySem.W.hasDictIn K C = true)
    (ac : PySem.W.findIn K (.ref C) "__class__" = some (some (.builtin "object.__class__")))
    (sn : PySem.W.specialIn K (.builtin "object.__class__") "__get__" = some (some (.builtin "getset_descriptor.__get__")))
    (tk : PySem.W.takesIn K (.builtin "object.__class__") = some true)
    (mr : PySem.W.mroIn K C (.type "object") = some true)
    (vn : PySem.W.findIn K (.ref C) "value" = some none) : ExT K mg x C fI :=
  ⟨⟨⟨nm, q, N, bs, bm, sl, sub, ab, col, dd, m0, m1, m2, m3, m5, xl, rb⟩, sa, ec, ty, kc⟩, i, t, PySem.W.mg_of X G a, ⟨ga, gg, ec, hd, ac, sn, tk, mr⟩, vn⟩
theorem all_mk {P : Program} {w : World} {K : PySem.W.Frag} {h : Heap} {mg : Str → Option Value} {fa fI c0 c1 c2 c3 c4 c5 c6 c7 c8 c9 c10 c11 f1 f2 f3 f4 f5 f6 f7 : Addr} (X : K.In h) (G : h.Ns mainGlobals mg) (hfa : mg "law" = some (.ref fa))
    {od0 an0 od1 an1 od2 an2 od3 an3 od4 an4 od5 an5 od6 an6 od7 an7 : Option Addr} {sl0 sl1 sl2 sl3 sl4 sl5 sl6 sl7 : Array (Option Value)} {oc0 kV0 dc0 pm0 cd0 ct0 oc1 kV1 dc1 pm1 cd1 ct1 oc2 kV2 dc2 pm2 cd2 ct2 oc3 kV3 dc3 pm3 cd3 ct3 oc4 kV4 dc4 pm4 cd4 ct4 oc5 kV5 dc5 pm5 cd5 ct5 oc6 kV6 dc6 pm6 cd6 ct6 oc7 kV7 dc7 pm7 cd7 ct7 : Value}
    (e0 : ExT K mg "InvalidDays" c0 fI)
    (e1 : ExT K mg "InvalidRule" c1 fI)
    (e2 : ExT K mg "InvalidLength" c2 fI)
    (e3 : ExT K mg "InvalidNumber" c3 fI)
    (e4 : ExT K mg "InvalidKnown" c4 fI)
    (e5 : ExT K mg "InvalidDay" c5 fI)
    (e6 : ExT K mg "NoRows" c6 fI)
    (e7 : ExT K mg "Contradiction" c7 fI)
    (e8 : ExT K mg "TooMany" c8 fI)
    (e9 : ExT K mg "NothingToUndo" c9 fI)
    (e10 : ExT K mg "Unreadable" c10 fI)
    (e11 : ExT K mg "SpanError" c11 fI)
    (l0 : K.lookup fI = some ⟨oc0, od0, .func (PySem.W.fnOf "__init__" "SpanError.__init__" (defArgs s_SpanError_init) (defBody s_SpanError_init) (defScope s_SpanError_init) .none kV0 dc0 pm0 an0 cd0 ct0), sl0⟩) (d0 : PySem.W.codeIn K cd0 "SpanError.__init__" = true) (k0 : PySem.W.keepIn K (.ref fI) = true)
    (a1 : PySem.W.nsIn K mainGlobals "_law_pool" = some (some (.ref f1))) (l1 : K.lookup f1 = some ⟨oc1, od1, .func (PySem.W.fnOf "_law_pool" "_law_pool" (defArgs s_pool) (defBody s_pool) (defScope s_pool) .none kV1 dc1 pm1 an1 cd1 ct1), sl1⟩) (d1 : PySem.W.codeIn K cd1 "_law_pool" = true) (k1 : PySem.W.keepIn K (.ref f1) = true)
    (a2 : PySem.W.nsIn K mainGlobals "_law_draw" = some (some (.ref f2))) (l2 : K.lookup f2 = some ⟨oc2, od2, .func (PySem.W.fnOf "_law_draw" "_law_draw" (defArgs s_draw) (defBody s_draw) (defScope s_draw) .none kV2 dc2 pm2 an2 cd2 ct2), sl2⟩) (d2 : PySem.W.codeIn K cd2 "_law_draw" = true) (k2 : PySem.W.keepIn K (.ref f2) = true)
    (a3 : PySem.W.nsIn K mainGlobals "_law_thing" = some (some (.ref f3))) (l3 : K.lookup f3 = some ⟨oc3, od3, .func (PySem.W.fnOf "_law_thing" "_law_thing" (defArgs s_thing) (defBody s_thing) (defScope s_thing) .none kV3 dc3 pm3 an3 cd3 ct3), sl3⟩) (d3 : PySem.W.codeIn K cd3 "_law_thing" = true) (k3 : PySem.W.keepIn K (.ref f3) = true)
    (a4 : PySem.W.nsIn K mainGlobals "_law_made_of" = some (some (.ref f4))) (l4 : K.lookup f4 = some ⟨oc4, od4, .func (PySem.W.fnOf "_law_made_of" "_law_made_of" (defArgs s_made_of) (defBody s_made_of) (defScope s_made_of) .none kV4 dc4 pm4 an4 cd4 ct4), sl4⟩) (d4 : PySem.W.codeIn K cd4 "_law_made_of" = true) (k4 : PySem.W.keepIn K (.ref f4) = true)
    (a5 : PySem.W.nsIn K mainGlobals "_law_classes" = some (some (.ref f5))) (l5 : K.lookup f5 = some ⟨oc5, od5, .func (PySem.W.fnOf "_law_classes" "_law_classes" (defArgs s_classes) (defBody s_classes) (defScope s_classes) .none kV5 dc5 pm5 an5 cd5 ct5), sl5⟩) (d5 : PySem.W.codeIn K cd5 "_law_classes" = true) (k5 : PySem.W.keepIn K (.ref f5) = true)
    (a6 : PySem.W.nsIn K mainGlobals "_law_right" = some (some (.ref f6))) (l6 : K.lookup f6 = some ⟨oc6, od6, .func (PySem.W.fnOf "_law_right" "_law_right" (defArgs s_right) (defBody s_right) (defScope s_right) .none kV6 dc6 pm6 an6 cd6 ct6), sl6⟩) (d6 : PySem.W.codeIn K cd6 "_law_right" = true) (k6 : PySem.W.keepIn K (.ref f6) = true)
    (a7 : PySem.W.nsIn K mainGlobals "law" = some (some (.ref f7))) (l7 : K.lookup f7 = some ⟨oc7, od7, .func (PySem.W.fnOf "law" "law" (defArgs s_law) (defBody s_law) (defScope s_law) .none kV7 dc7 pm7 an7 cd7 ct7), sl7⟩) (d7 : PySem.W.codeIn K cd7 "law" = true) (k7 : PySem.W.keepIn K (.ref f7) = true)
    (z_int : PySem.W.nsIn K mainGlobals "int" = some none)
    (z_max : PySem.W.nsIn K mainGlobals "max" = some none)
    (z_min : PySem.W.nsIn K mainGlobals "min" = some none)
    (z_abs : PySem.W.nsIn K mainGlobals "abs" = some none)
    (z_len : PySem.W.nsIn K mainGlobals "len" = some none)
    (z_repr : PySem.W.nsIn K mainGlobals "repr" = some none)
    (z_isinstance : PySem.W.nsIn K mainGlobals "isinstance" = some none)
    (z_range : PySem.W.nsIn K mainGlobals "range" = some none)
    (z_str : PySem.W.nsIn K mainGlobals "str" = some none)
    (z_list : PySem.W.nsIn K mainGlobals "list" = some none)
    (z_ValueError : PySem.W.nsIn K mainGlobals "ValueError" = some none)
    (q_0_0 : PySem.W.kitOne K (.ref c0) (.ref c0) = some true) (q_0_1 : PySem.W.kitOne K (.ref c0) (.ref c1) = some false) (q_0_2 : PySem.W.kitOne K (.ref c0) (.ref c2) = some false) (q_0_3 : PySem.W.kitOne K (.ref c0) (.ref c3) = some false) (q_0_4 : PySem.W.kitOne K (.ref c0) (.ref c4) = some false) (q_0_5 : PySem.W.kitOne K (.ref c0) (.ref c5) = some false) (q_0_6 : PySem.W.kitOne K (.ref c0) (.ref c6) = some false) (q_0_7 : PySem.W.kitOne K (.ref c0) (.ref c7) = some false) (q_0_8 : PySem.W.kitOne K (.ref c0) (.ref c8) = some false) (q_0_9 : PySem.W.kitOne K (.ref c0) (.ref c9) = some false) (q_0_10 : PySem.W.kitOne K (.ref c0) (.ref c10) = some false) (q_0_11 : PySem.W.kitOne K (.ref c0) (.ref c11) = some true) (q_0_v : PySem.W.kitOne K (.ref c0) (.type "ValueError") = some true)
    (q_1_0 : PySem.W.kitOne K (.ref c1) (.ref c0) = some false) (q_1_1 : PySem.W.kitOne K (.ref c1) (.ref c1) = some true) (q_1_2 : PySem.W.kitOne K (.ref c1) (.ref c2) = some false) (q_1_3 : PySem.W.kitOne K (.ref c1) (.ref c3) = some false) (q_1_4 : PySem.W.kitOne K (.ref c1) (.ref c4) = some false) (q_1_5 : PySem.W.kitOne K (.ref c1) (.ref c5) = some false) (q_1_6 : PySem.W.kitOne K (.ref c1) (.ref c6) = some false) (q_1_7 : PySem.W.kitOne K (.ref c1) (.ref c7) = some false) (q_1_8 : PySem.W.kitOne K (.ref c1) (.ref c8) = some false) (q_1_9 : PySem.W.kitOne K (.ref c1) (.ref c9) = some false) (q_1_10 : PySem.W.kitOne K (.ref c1) (.ref c10) = some false) (q_1_11 : PySem.W.kitOne K (.ref c1) (.ref c11) = some true) (q_1_v : PySem.W.kitOne K (.ref c1) (.type "ValueError") = some true)
    (q_2_0 : PySem.W.kitOne K (.ref c2) (.ref c0) = some false) (q_2_1 : PySem.W.kitOne K (.ref c2) (.ref c1) = some false) (q_2_2 : PySem.W.kitOne K (.ref c2) (.ref c2) = some true) (q_2_3 : PySem.W.kitOne K (.ref c2) (.ref c3) = some false) (q_2_4 : PySem.W.kitOne K (.ref c2) (.ref c4) = some false) (q_2_5 : PySem.W.kitOne K (.ref c2) (.ref c5) = some false) (q_2_6 : PySem.W.kitOne K (.ref c2) (.ref c6) = some false) (q_2_7 : PySem.W.kitOne K (.ref c2) (.ref c7) = some false) (q_2_8 : PySem.W.kitOne K (.ref c2) (.ref c8) = some false) (q_2_9 : PySem.W.kitOne K (.ref c2) (.ref c9) = some false) (q_2_10 : PySem.W.kitOne K (.ref c2) (.ref c10) = some false) (q_2_11 : PySem.W.kitOne K (.ref c2) (.ref c11) = some true) (q_2_v : PySem.W.kitOne K (.ref c2) (.type "ValueError") = some true)
    (q_3_0 : PySem.W.kitOne K (.ref c3) (.ref c0) = some false) (q_3_1 : PySem.W.kitOne K (.ref c3) (.ref c1) = some false) (q_3_2 : PySem.W.kitOne K (.ref c3) (.ref c2) = some false) (q_3_3 : PySem.W.kitOne K (.ref c3) (.ref c3) = some true) (q_3_4 : PySem.W.kitOne K (.ref c3) (.ref c4) = some false) (q_3_5 : PySem.W.kitOne K (.ref c3) (.ref c5) = some false) (q_3_6 : PySem.W.kitOne K (.ref c3) (.ref c6) = some false) (q_3_7 : PySem.W.kitOne K (.ref c3) (.ref c7) = some false) (q_3_8 : PySem.W.kitOne K (.ref c3) (.ref c8) = some false) (q_3_9 : PySem.W.kitOne K (.ref c3) (.ref c9) = some false) (q_3_10 : PySem.W.kitOne K (.ref c3) (.ref c10) = some false) (q_3_11 : PySem.W.kitOne K (.ref c3) (.ref c11) = some true) (q_3_v : PySem.W.kitOne K (.ref c3) (.type "ValueError") = some true)
    (q_4_0 : PySem.W.kitOne K (.ref c4) (.ref c0) = some false) (q_4_1 : PySem.W.kitOne K (.ref c4) (.ref c1) = some false) (q_4_2 : PySem.W.kitOne K (.ref c4) (.ref c2) = some false) (q_4_3 : PySem.W.kitOne K (.ref c4) (.ref c3) = some false) (q_4_4 : PySem.W.kitOne K (.ref c4) (.ref c4) = some true) (q_4_5 : PySem.W.kitOne K (.ref c4) (.ref c5) = some false) (q_4_6 : PySem.W.kitOne K (.ref c4) (.ref c6) = some false) (q_4_7 : PySem.W.kitOne K (.ref c4) (.ref c7) = some false) (q_4_8 : PySem.W.kitOne K (.ref c4) (.ref c8) = some false) (q_4_9 : PySem.W.kitOne K (.ref c4) (.ref c9) = some false) (q_4_10 : PySem.W.kitOne K (.ref c4) (.ref c10) = some false) (q_4_11 : PySem.W.kitOne K (.ref c4) (.ref c11) = some true) (q_4_v : PySem.W.kitOne K (.ref c4) (.type "ValueError") = some true)
    (q_5_0 : PySem.W.kitOne K (.ref c5) (.ref c0) = some false) (q_5_1 : PySem.W.kitOne K (.ref c5) (.ref c1) = some false) (q_5_2 : PySem.W.kitOne K (.ref c5) (.ref c2) = some false) (q_5_3 : PySem.W.kitOne K (.ref c5) (.ref c3) = some false) (q_5_4 : PySem.W.kitOne K (.ref c5) (.ref c4) = some false) (q_5_5 : PySem.W.kitOne K (.ref c5) (.ref c5) = some true) (q_5_6 : PySem.W.kitOne K (.ref c5) (.ref c6) = some false) (q_5_7 : PySem.W.kitOne K (.ref c5) (.ref c7) = some false) (q_5_8 : PySem.W.kitOne K (.ref c5) (.ref c8) = some false) (q_5_9 : PySem.W.kitOne K (.ref c5) (.ref c9) = some false) (q_5_10 : PySem.W.kitOne K (.ref c5) (.ref c10) = some false) (q_5_11 : PySem.W.kitOne K (.ref c5) (.ref c11) = some true) (q_5_v : PySem.W.kitOne K (.ref c5) (.type "ValueError") = some true)
    (q_6_0 : PySem.W.kitOne K (.ref c6) (.ref c0) = some false) (q_6_1 : PySem.W.kitOne K (.ref c6) (.ref c1) = some false) (q_6_2 : PySem.W.kitOne K (.ref c6) (.ref c2) = some false) (q_6_3 : PySem.W.kitOne K (.ref c6) (.ref c3) = some false) (q_6_4 : PySem.W.kitOne K (.ref c6) (.ref c4) = some false) (q_6_5 : PySem.W.kitOne K (.ref c6) (.ref c5) = some false) (q_6_6 : PySem.W.kitOne K (.ref c6) (.ref c6) = some true) (q_6_7 : PySem.W.kitOne K (.ref c6) (.ref c7) = some false) (q_6_8 : PySem.W.kitOne K (.ref c6) (.ref c8) = some false) (q_6_9 : PySem.W.kitOne K (.ref c6) (.ref c9) = some false) (q_6_10 : PySem.W.kitOne K (.ref c6) (.ref c10) = some false) (q_6_11 : PySem.W.kitOne K (.ref c6) (.ref c11) = some true) (q_6_v : PySem.W.kitOne K (.ref c6) (.type "ValueError") = some true)
    (q_7_0 : PySem.W.kitOne K (.ref c7) (.ref c0) = some false) (q_7_1 : PySem.W.kitOne K (.ref c7) (.ref c1) = some false) (q_7_2 : PySem.W.kitOne K (.ref c7) (.ref c2) = some false) (q_7_3 : PySem.W.kitOne K (.ref c7) (.ref c3) = some false) (q_7_4 : PySem.W.kitOne K (.ref c7) (.ref c4) = some false) (q_7_5 : PySem.W.kitOne K (.ref c7) (.ref c5) = some false) (q_7_6 : PySem.W.kitOne K (.ref c7) (.ref c6) = some false) (q_7_7 : PySem.W.kitOne K (.ref c7) (.ref c7) = some true) (q_7_8 : PySem.W.kitOne K (.ref c7) (.ref c8) = some false) (q_7_9 : PySem.W.kitOne K (.ref c7) (.ref c9) = some false) (q_7_10 : PySem.W.kitOne K (.ref c7) (.ref c10) = some false) (q_7_11 : PySem.W.kitOne K (.ref c7) (.ref c11) = some true) (q_7_v : PySem.W.kitOne K (.ref c7) (.type "ValueError") = some true)
    (q_8_0 : PySem.W.kitOne K (.ref c8) (.ref c0) = some false) (q_8_1 : PySem.W.kitOne K (.ref c8) (.ref c1) = some false) (q_8_2 : PySem.W.kitOne K (.ref c8) (.ref c2) = some false) (q_8_3 : PySem.W.kitOne K (.ref c8) (.ref c3) = some false) (q_8_4 : PySem.W.kitOne K (.ref c8) (.ref c4) = some false) (q_8_5 : PySem.W.kitOne K (.ref c8) (.ref c5) = some false) (q_8_6 : PySem.W.kitOne K (.ref c8) (.ref c6) = some false) (q_8_7 : PySem.W.kitOne K (.ref c8) (.ref c7) = some false) (q_8_8 : PySem.W.kitOne K (.ref c8) (.ref c8) = some true) (q_8_9 : PySem.W.kitOne K (.ref c8) (.ref c9) = some false) (q_8_10 : PySem.W.kitOne K (.ref c8) (.ref c10) = some false) (q_8_11 : PySem.W.kitOne K (.ref c8) (.ref c11) = some true) (q_8_v : PySem.W.kitOne K (.ref c8) (.type "ValueError") = some true)
    (q_9_0 : PySem.W.kitOne K (.ref c9) (.ref c0) = some false) (q_9_1 : PySem.W.kitOne K (.ref c9) (.ref c1) = some false) (q_9_2 : PySem.W.kitOne K (.ref c9) (.ref c2) = some false) (q_9_3 : PySem.W.kitOne K (.ref c9) (.ref c3) = some false) (q_9_4 : PySem.W.kitOne K (.ref c9) (.ref c4) = some false) (q_9_5 : PySem.W.kitOne K (.ref c9) (.ref c5) = some false) (q_9_6 : PySem.W.kitOne K (.ref c9) (.ref c6) = some false) (q_9_7 : PySem.W.kitOne K (.ref c9) (.ref c7) = some false) (q_9_8 : PySem.W.kitOne K (.ref c9) (.ref c8) = some false) (q_9_9 : PySem.W.kitOne K (.ref c9) (.ref c9) = some true) (q_9_10 : PySem.W.kitOne K (.ref c9) (.ref c10) = some false) (q_9_11 : PySem.W.kitOne K (.ref c9) (.ref c11) = some true) (q_9_v : PySem.W.kitOne K (.ref c9) (.type "ValueError") = some true)
    (q_10_0 : PySem.W.kitOne K (.ref c10) (.ref c0) = some false) (q_10_1 : PySem.W.kitOne K (.ref c10) (.ref c1) = some false) (q_10_2 : PySem.W.kitOne K (.ref c10) (.ref c2) = some false) (q_10_3 : PySem.W.kitOne K (.ref c10) (.ref c3) = some false) (q_10_4 : PySem.W.kitOne K (.ref c10) (.ref c4) = some false) (q_10_5 : PySem.W.kitOne K (.ref c10) (.ref c5) = some false) (q_10_6 : PySem.W.kitOne K (.ref c10) (.ref c6) = some false) (q_10_7 : PySem.W.kitOne K (.ref c10) (.ref c7) = some false) (q_10_8 : PySem.W.kitOne K (.ref c10) (.ref c8) = some false) (q_10_9 : PySem.W.kitOne K (.ref c10) (.ref c9) = some false) (q_10_10 : PySem.W.kitOne K (.ref c10) (.ref c10) = some true) (q_10_11 : PySem.W.kitOne K (.ref c10) (.ref c11) = some true) (q_10_v : PySem.W.kitOne K (.ref c10) (.type "ValueError") = some true)
    (q_11_0 : PySem.W.kitOne K (.ref c11) (.ref c0) = some false) (q_11_1 : PySem.W.kitOne K (.ref c11) (.ref c1) = some false) (q_11_2 : PySem.W.kitOne K (.ref c11) (.ref c2) = some false) (q_11_3 : PySem.W.kitOne K (.ref c11) (.ref c3) = some false) (q_11_4 : PySem.W.kitOne K (.ref c11) (.ref c4) = some false) (q_11_5 : PySem.W.kitOne K (.ref c11) (.ref c5) = some false) (q_11_6 : PySem.W.kitOne K (.ref c11) (.ref c6) = some false) (q_11_7 : PySem.W.kitOne K (.ref c11) (.ref c7) = some false) (q_11_8 : PySem.W.kitOne K (.ref c11) (.ref c8) = some false) (q_11_9 : PySem.W.kitOne K (.ref c11) (.ref c9) = some false) (q_11_10 : PySem.W.kitOne K (.ref c11) (.ref c10) = some false) (q_11_11 : PySem.W.kitOne K (.ref c11) (.ref c11) = some true) (q_11_v : PySem.W.kitOne K (.ref c11) (.type "ValueError") = some true) :
    ∃ fd : FuncData, (∀ (s : Shared) (u : Value), BindsTo s fd ⟨[u], []⟩ [("script", u)]) ∧ ∀ base : Heap, K.In base → base.Ns mainGlobals mg → FnG P w K mg base CX0 5 fa fd ["script"] (spLaw K) := by
  have e := hfa.symm.trans (PySem.W.mg_of X G a7)
  cases e
  have T : Txt K mg fI c0 c1 c2 c3 c4 c5 c6 c7 c8 c9 c10 c11 :=
    { x_InvalidDays := e0,
      x_InvalidRule := e1,
      x_InvalidLength := e2,
      x_InvalidNumber := e3,
      x_InvalidKnown := e4,
      x_InvalidDay := e5,
      x_NoRows := e6,
      x_Contradiction := e7,
      x_TooMany := e8,
      x_NothingToUndo := e9,
      x_Unreadable := e10,
      x_SpanError := e11,
      n_int := PySem.W.mg_none_of X G z_int,
      n_max := PySem.W.mg_none_of X G z_max,
      n_min := PySem.W.mg_none_of X G z_min,
      n_abs := PySem.W.mg_none_of X G z_abs,
      n_len := PySem.W.mg_none_of X G z_len,
      n_repr := PySem.W.mg_none_of X G z_repr,
      n_isinstance := PySem.W.mg_none_of X G z_isinstance,
      n_range := PySem.W.mg_none_of X G z_range,
      n_str := PySem.W.mg_none_of X G z_str,
      n_list := PySem.W.mg_none_of X G z_list,
      n_ValueError := PySem.W.mg_none_of X G z_ValueError,
      k_0_0 := q_0_0, k_0_1 := q_0_1, k_0_2 := q_0_2, k_0_3 := q_0_3, k_0_4 := q_0_4, k_0_5 := q_0_5, k_0_6 := q_0_6, k_0_7 := q_0_7, k_0_8 := q_0_8, k_0_9 := q_0_9, k_0_10 := q_0_10, k_0_11 := q_0_11, k_0_v := q_0_v,
      k_1_0 := q_1_0, k_1_1 := q_1_1, k_1_2 := q_1_2, k_1_3 := q_1_3, k_1_4 := q_1_4, k_1_5 := q_1_5, k_1_6 := q_1_6, k_1_7 := q_1_7, k_1_8 := q_1_8, k_1_9 := q_1_9, k_1_10 := q_1_10, k_1_11 := q_1_11, k_1_v := q_1_v,
      k_2_0 := q_2_0, k_2_1 := q_2_1, k_2_2 := q_2_2, k_2_3 := q_2_3, k_2_4 := q_2_4, k_2_5 := q_2_5, k_2_6 := q_2_6, k_2_7 := q_2_7, k_2_8 := q_2_8, k_2_9 := q_2_9, k_2_10 := q_2_10, k_2_11 := q_2_11, k_2_v := q_2_v,
      k_3_0 := q_3_0, k_3_1 := q_3_1, k_3_2 := q_3_2, k_3_3 := q_3_3, k_3_4 := q_3_4, k_3_5 := q_3_5, k_3_6 := q_3_6, k_3_7 := q_3_7, k_3_8 := q_3_8, k_3_9 := q_3_9, k_3_10 := q_3_10, k_3_11 := q_3_11, k_3_v := q_3_v,
      k_4_0 := q_4_0, k_4_1 := q_4_1, k_4_2 := q_4_2, k_4_3 := q_4_3, k_4_4 := q_4_4, k_4_5 := q_4_5, k_4_6 := q_4_6, k_4_7 := q_4_7, k_4_8 := q_4_8, k_4_9 := q_4_9, k_4_10 := q_4_10, k_4_11 := q_4_11, k_4_v := q_4_v,
      k_5_0 := q_5_0, k_5_1 := q_5_1, k_5_2 := q_5_2, k_5_3 := q_5_3, k_5_4 := q_5_4, k_5_5 := q_5_5, k_5_6 := q_5_6, k_5_7 := q_5_7, k_5_8 := q_5_8, k_5_9 := q_5_9, k_5_10 := q_5_10, k_5_11 := q_5_11, k_5_v := q_5_v,
      k_6_0 := q_6_0, k_6_1 := q_6_1, k_6_2 := q_6_2, k_6_3 := q_6_3, k_6_4 := q_6_4, k_6_5 := q_6_5, k_6_6 := q_6_6, k_6_7 := q_6_7, k_6_8 := q_6_8, k_6_9 := q_6_9, k_6_10 := q_6_10, k_6_11 := q_6_11, k_6_v := q_6_v,
      k_7_0 := q_7_0, k_7_1 := q_7_1, k_7_2 := q_7_2, k_7_3 := q_7_3, k_7_4 := q_7_4, k_7_5 := q_7_5, k_7_6 := q_7_6, k_7_7 := q_7_7, k_7_8 := q_7_8, k_7_9 := q_7_9, k_7_10 := q_7_10, k_7_11 := q_7_11, k_7_v := q_7_v,
      k_8_0 := q_8_0, k_8_1 := q_8_1, k_8_2 := q_8_2, k_8_3 := q_8_3, k_8_4 := q_8_4, k_8_5 := q_8_5, k_8_6 := q_8_6, k_8_7 := q_8_7, k_8_8 := q_8_8, k_8_9 := q_8_9, k_8_10 := q_8_10, k_8_11 := q_8_11, k_8_v := q_8_v,
      k_9_0 := q_9_0, k_9_1 := q_9_1, k_9_2 := q_9_2, k_9_3 := q_9_3, k_9_4 := q_9_4, k_9_5 := q_9_5, k_9_6 := q_9_6, k_9_7 := q_9_7, k_9_8 := q_9_8, k_9_9 := q_9_9, k_9_10 := q_9_10, k_9_11 := q_9_11, k_9_v := q_9_v,
      k_10_0 := q_10_0, k_10_1 := q_10_1, k_10_2 := q_10_2, k_10_3 := q_10_3, k_10_4 := q_10_4, k_10_5 := q_10_5, k_10_6 := q_10_6, k_10_7 := q_10_7, k_10_8 := q_10_8, k_10_9 := q_10_9, k_10_10 := q_10_10, k_10_11 := q_10_11, k_10_v := q_10_v,
      k_11_0 := q_11_0, k_11_1 := q_11_1, k_11_2 := q_11_2, k_11_3 := q_11_3, k_11_4 := q_11_4, k_11_5 := q_11_5, k_11_6 := q_11_6, k_11_7 := q_11_7, k_11_8 := q_11_8, k_11_9 := q_11_9, k_11_10 := q_11_10, k_11_11 := q_11_11, k_11_v := q_11_v }
  have F0 := fun_mk (st := s_SpanError_init) l0 d0 k0
  have b0 := F0.binds (ps := ["self", "value"]) fun _ _ _ _ _ _ us hl => match us, hl with | [_, _], _ => rfl
  have F1 := fun_mk (st := s_pool) l1 d1 k1
  have b1 := F1.binds (ps := ["script", "spot"]) fun _ _ _ _ _ _ us hl => match us, hl with | [_, _], _ => rfl
  have F2 := fun_mk (st := s_draw) l2 d2 k2
  have b2 := F2.binds (ps := ["pool", "many"]) fun _ _ _ _ _ _ us hl => match us, hl with | [_, _], _ => rfl
  have F3 := fun_mk (st := s_thing) l3 d3 k3
  have b3 := F3.binds (ps := ["pool"]) fun _ _ _ _ _ _ us hl => match us, hl with | [_], _ => rfl
  have F4 := fun_mk (st := s_made_of) l4 d4 k4
  have b4 := F4.binds (ps := ["thing", "is_named"]) fun _ _ _ _ _ _ us hl => match us, hl with | [_, _], _ => rfl
  have F5 := fun_mk (st := s_classes) l5 d5 k5
  have b5 := F5.binds (ps := ["caught"]) fun _ _ _ _ _ _ us hl => match us, hl with | [_], _ => rfl
  have F6 := fun_mk (st := s_right) l6 d6 k6
  have b6 := F6.binds (ps := ["pool"]) fun _ _ _ _ _ _ us hl => match us, hl with | [_], _ => rfl
  have F7 := fun_mk (st := s_law) l7 d7 k7
  refine ⟨PySem.W.fnOf "law" "law" (defArgs s_law) (defBody s_law) (defScope s_law) .none kV7 dc7 pm7 an7 cd7 ct7, fun s u => .of_eq rfl, fun base _ _ => ?_⟩
  have GI : FnOk P w K mg base CX0 1 fI _ ["self", "value"] (spInit K) := ok_init F0
  have GP : CalN P w K mg base 1 "_law_pool" (spPool K) := ⟨f1, _, _, ok_pool F1 T, PySem.W.mg_of X G a1, k1, b1⟩
  have GD : CalN P w K mg base 1 "_law_draw" spDraw := ⟨f2, _, _, ok_draw F2 T, PySem.W.mg_of X G a2, k2, b2⟩
  have GT : CalN P w K mg base 2 "_law_thing" spThing := ⟨f3, _, _, ok_thing F3 T GD, PySem.W.mg_of X G a3, k3, b3⟩
  have GM : CalN P w K mg base 3 "_law_made_of" (spMade [c0, c1, c2, c3, c4, c5, c6, c7, c8, c9, c10, c11]) := ⟨f4, _, _, ok_made F4 T GI b0 (fun s a u => .of_eq rfl), PySem.W.mg_of X G a4, k4, b4⟩
  have GC : CalN P w K mg base 1 "_law_classes" (spClasses K c0 c1 c2 c3 c4 c5 c6 c7 c8 c9 c10) := ⟨f5, _, _, ok_classes F5 T, PySem.W.mg_of X G a5, k5, b5⟩
  have GR : CalG P w K mg base 4 "_law_right" spRight := ⟨f6, _, _, ok_right F6 T GD GT GM GC, PySem.W.mg_of X G a6, k6, b6⟩
  exact ok_law F7 T GP GR

end Ev

open PySem PySem.W PyProof.Rows
set_option maxRecDepth 100000 in
set_option maxHeartbeats 0 in
theorem PySem.Challenge.cw_everyspan_k01_errors_made_holds : PySem.Challenge.rw_everyspan_k01_errors_made.Holds := by
  w_on; o_law; k_head; (case hw => w_witness2)
  k_fill
  refine Ev.walk_ofG (l := PySem.Challenge.rw_everyspan_k01_errors_made) (n := 63) (k := 5) (x := "script") (sp := Ev.spLaw) rfl (by decide) rfl ⟨rfl, by decide, by decide⟩ (fun w h Y => PySem.W.kIn_of Y) ?F ?hsp
  case hsp => exact fun K H a ns hl hS => ⟨a, ns, rfl, hS, hl, fun _ => rfl⟩
  case F =>
    intro w mg fa h KX G hmg
    refine' Ev.all_mk KX G hmg ?e0 ?e1 ?e2 ?e3 ?e4 ?e5 ?e6 ?e7 ?e8 ?e9 ?e10 ?e11 ?l0 ?d0 ?k0 ?a1 ?l1 ?d1 ?k1 ?a2 ?l2 ?d2 ?k2 ?a3 ?l3 ?d3 ?k3 ?a4 ?l4 ?d4 ?k4 ?a5 ?l5 ?d5 ?k5 ?a6 ?l6 ?d6 ?k6 ?a7 ?l7 ?d7 ?k7 ?z_int ?z_max ?z_min ?z_abs ?z_len ?z_repr ?z_isinstance ?z_range ?z_str ?z_list ?z_ValueError ?q_0_0 ?q_0_1 ?q_0_2 ?q_0_3 ?q_0_4 ?q_0_5 ?q_0_6 ?q_0_7 ?q_0_8 ?q_0_9 ?q_0_10 ?q_0_11 ?q_0_v ?q_1_0 ?q_1_1 ?q_1_2 ?q_1_3 ?q_1_4 ?q_1_5 ?q_1_6 ?q_1_7 ?q_1_8 ?q_1_9 ?q_1_10 ?q_1_11 ?q_1_v ?q_2_0 ?q_2_1 ?q_2_2 ?q_2_3 ?q_2_4 ?q_2_5 ?q_2_6 ?q_2_7 ?q_2_8 ?q_2_9 ?q_2_10 ?q_2_11 ?q_2_v ?q_3_0 ?q_3_1 ?q_3_2 ?q_3_3 ?q_3_4 ?q_3_5 ?q_3_6 ?q_3_7 ?q_3_8 ?q_3_9 ?q_3_10 ?q_3_11 ?q_3_v ?q_4_0 ?q_4_1 ?q_4_2 ?q_4_3 ?q_4_4 ?q_4_5 ?q_4_6 ?q_4_7 ?q_4_8 ?q_4_9 ?q_4_10 ?q_4_11 ?q_4_v ?q_5_0 ?q_5_1 ?q_5_2 ?q_5_3 ?q_5_4 ?q_5_5 ?q_5_6 ?q_5_7 ?q_5_8 ?q_5_9 ?q_5_10 ?q_5_11 ?q_5_v ?q_6_0 ?q_6_1 ?q_6_2 ?q_6_3 ?q_6_4 ?q_6_5 ?q_6_6 ?q_6_7 ?q_6_8 ?q_6_9 ?q_6_10 ?q_6_11 ?q_6_v ?q_7_0 ?q_7_1 ?q_7_2 ?q_7_3 ?q_7_4 ?q_7_5 ?q_7_6 ?q_7_7 ?q_7_8 ?q_7_9 ?q_7_10 ?q_7_11 ?q_7_v ?q_8_0 ?q_8_1 ?q_8_2 ?q_8_3 ?q_8_4 ?q_8_5 ?q_8_6 ?q_8_7 ?q_8_8 ?q_8_9 ?q_8_10 ?q_8_11 ?q_8_v ?q_9_0 ?q_9_1 ?q_9_2 ?q_9_3 ?q_9_4 ?q_9_5 ?q_9_6 ?q_9_7 ?q_9_8 ?q_9_9 ?q_9_10 ?q_9_11 ?q_9_v ?q_10_0 ?q_10_1 ?q_10_2 ?q_10_3 ?q_10_4 ?q_10_5 ?q_10_6 ?q_10_7 ?q_10_8 ?q_10_9 ?q_10_10 ?q_10_11 ?q_10_v ?q_11_0 ?q_11_1 ?q_11_2 ?q_11_3 ?q_11_4 ?q_11_5 ?q_11_6 ?q_11_7 ?q_11_8 ?q_11_9 ?q_11_10 ?q_11_11 ?q_11_v
    (case e0 => refine' Ev.cls_mk KX G ?a ?xl ?rb ?sa ?ec ?ty ?kc ?i ?t ?ga ?gg ?hd ?ac ?sn ?tk ?mr ?vn; (case a => k_is); (case xl => k_is); (case rb => decide +kernel); (case sa => k_is); (case ec => k_is); (case ty => k_is); (case kc => k_is); (case i => k_is); (case t => k_is); (case ga => k_is); (case gg => k_is); (case hd => k_is); (case ac => k_is); (case sn => k_is); (case tk => k_is); (case mr => k_is); (case vn => k_is))
    (case e1 => refine' Ev.cls_mk KX G ?a ?xl ?rb ?sa ?ec ?ty ?kc ?i ?t ?ga ?gg ?hd ?ac ?sn ?tk ?mr ?vn; (case a => k_is); (case xl => k_is); (case rb => decide +kernel); (case sa => k_is); (case ec => k_is); (case ty => k_is); (case kc => k_is); (case i => k_is); (case t => k_is); (case ga => k_is); (case gg => k_is); (case hd => k_is); (case ac => k_is); (case sn => k_is); (case tk => k_is); (case mr => k_is); (case vn => k_is))
    (case e2 => refine' Ev.cls_mk KX G ?a ?xl ?rb ?sa ?ec ?ty ?kc ?i ?t ?ga ?gg ?hd ?ac ?sn ?tk ?mr ?vn; (case a => k_is); (case xl => k_is); (case rb => decide +kernel); (case sa => k_is); (case ec => k_is); (case ty => k_is); (case kc => k_is); (case i => k_is); (case t => k_is); (case ga => k_is); (case gg => k_is); (case hd => k_is); (case ac => k_is); (case sn => k_is); (case tk => k_is); (case mr => k_is); (case vn => k_is))
    (case e3 => refine' Ev.cls_mk KX G ?a ?xl ?rb ?sa ?ec ?ty ?kc ?i ?t ?ga ?gg ?hd ?ac ?sn ?tk ?mr ?vn; (case a => k_is); (case xl => k_is); (case rb => decide +kernel); (case sa => k_is); (case ec => k_is); (case ty => k_is); (case kc => k_is); (case i => k_is); (case t => k_is); (case ga => k_is); (case gg => k_is); (case hd => k_is); (case ac => k_is); (case sn => k_is); (case tk => k_is); (case mr => k_is); (case vn => k_is))
    (case e4 => refine' Ev.cls_mk KX G ?a ?xl ?rb ?sa ?ec ?ty ?kc ?i ?t ?ga ?gg ?hd ?ac ?sn ?tk ?mr ?vn; (case a => k_is); (case xl => k_is); (case rb => decide +kernel); (case sa => k_is); (case ec => k_is); (case ty => k_is); (case kc => k_is); (case i => k_is); (case t => k_is); (case ga => k_is); (case gg => k_is); (case hd => k_is); (case ac => k_is); (case sn => k_is); (case tk => k_is); (case mr => k_is); (case vn => k_is))
    (case e5 => refine' Ev.cls_mk KX G ?a ?xl ?rb ?sa ?ec ?ty ?kc ?i ?t ?ga ?gg ?hd ?ac ?sn ?tk ?mr ?vn; (case a => k_is); (case xl => k_is); (case rb => decide +kernel); (case sa => k_is); (case ec => k_is); (case ty => k_is); (case kc => k_is); (case i => k_is); (case t => k_is); (case ga => k_is); (case gg => k_is); (case hd => k_is); (case ac => k_is); (case sn => k_is); (case tk => k_is); (case mr => k_is); (case vn => k_is))
    (case e6 => refine' Ev.cls_mk KX G ?a ?xl ?rb ?sa ?ec ?ty ?kc ?i ?t ?ga ?gg ?hd ?ac ?sn ?tk ?mr ?vn; (case a => k_is); (case xl => k_is); (case rb => decide +kernel); (case sa => k_is); (case ec => k_is); (case ty => k_is); (case kc => k_is); (case i => k_is); (case t => k_is); (case ga => k_is); (case gg => k_is); (case hd => k_is); (case ac => k_is); (case sn => k_is); (case tk => k_is); (case mr => k_is); (case vn => k_is))
    (case e7 => refine' Ev.cls_mk KX G ?a ?xl ?rb ?sa ?ec ?ty ?kc ?i ?t ?ga ?gg ?hd ?ac ?sn ?tk ?mr ?vn; (case a => k_is); (case xl => k_is); (case rb => decide +kernel); (case sa => k_is); (case ec => k_is); (case ty => k_is); (case kc => k_is); (case i => k_is); (case t => k_is); (case ga => k_is); (case gg => k_is); (case hd => k_is); (case ac => k_is); (case sn => k_is); (case tk => k_is); (case mr => k_is); (case vn => k_is))
    (case e8 => refine' Ev.cls_mk KX G ?a ?xl ?rb ?sa ?ec ?ty ?kc ?i ?t ?ga ?gg ?hd ?ac ?sn ?tk ?mr ?vn; (case a => k_is); (case xl => k_is); (case rb => decide +kernel); (case sa => k_is); (case ec => k_is); (case ty => k_is); (case kc => k_is); (case i => k_is); (case t => k_is); (case ga => k_is); (case gg => k_is); (case hd => k_is); (case ac => k_is); (case sn => k_is); (case tk => k_is); (case mr => k_is); (case vn => k_is))
    (case e9 => refine' Ev.cls_mk KX G ?a ?xl ?rb ?sa ?ec ?ty ?kc ?i ?t ?ga ?gg ?hd ?ac ?sn ?tk ?mr ?vn; (case a => k_is); (case xl => k_is); (case rb => decide +kernel); (case sa => k_is); (case ec => k_is); (case ty => k_is); (case kc => k_is); (case i => k_is); (case t => k_is); (case ga => k_is); (case gg => k_is); (case hd => k_is); (case ac => k_is); (case sn => k_is); (case tk => k_is); (case mr => k_is); (case vn => k_is))
    (case e10 => refine' Ev.cls_mk KX G ?a ?xl ?rb ?sa ?ec ?ty ?kc ?i ?t ?ga ?gg ?hd ?ac ?sn ?tk ?mr ?vn; (case a => k_is); (case xl => k_is); (case rb => decide +kernel); (case sa => k_is); (case ec => k_is); (case ty => k_is); (case kc => k_is); (case i => k_is); (case t => k_is); (case ga => k_is); (case gg => k_is); (case hd => k_is); (case ac => k_is); (case sn => k_is); (case tk => k_is); (case mr => k_is); (case vn => k_is))
    (case e11 => refine' Ev.cls_mk KX G ?a ?xl ?rb ?sa ?ec ?ty ?kc ?i ?t ?ga ?gg ?hd ?ac ?sn ?tk ?mr ?vn; (case a => k_is); (case xl => k_is); (case rb => decide +kernel); (case sa => k_is); (case ec => k_is); (case ty => k_is); (case kc => k_is); (case i => k_is); (case t => k_is); (case ga => k_is); (case gg => k_is); (case hd => k_is); (case ac => k_is); (case sn => k_is); (case tk => k_is); (case mr => k_is); (case vn => k_is))
    (case l0 => k_is)
    (case d0 => k_is)
    (case k0 => k_is)
    (case a1 => k_is)
    (case l1 => k_is)
    (case d1 => k_is)
    (case k1 => k_is)
    (case a2 => k_is)
    (case l2 => k_is)
    (case d2 => k_is)
    (case k2 => k_is)
    (case a3 => k_is)
    (case l3 => k_is)
    (case d3 => k_is)
    (case k3 => k_is)
    (case a4 => k_is)
    (case l4 => k_is)
    (case d4 => k_is)
    (case k4 => k_is)
    (case a5 => k_is)
    (case l5 => k_is)
    (case d5 => k_is)
    (case k5 => k_is)
    (case a6 => k_is)
    (case l6 => k_is)
    (case d6 => k_is)
    (case k6 => k_is)
    (case a7 => k_is)
    (case l7 => k_is)
    (case d7 => k_is)
    (case k7 => k_is)
    (case z_int => k_is)
    (case z_max => k_is)
    (case z_min => k_is)
    (case z_abs => k_is)
    (case z_len => k_is)
    (case z_repr => k_is)
    (case z_isinstance => k_is)
    (case z_range => k_is)
    (case z_str => k_is)
    (case z_list => k_is)
    (case z_ValueError => k_is)
    (case q_0_0 => kit_is)
    (case q_0_1 => kit_is)
    (case q_0_2 => kit_is)
    (case q_0_3 => kit_is)
    (case q_0_4 => kit_is)
    (case q_0_5 => kit_is)
    (case q_0_6 => kit_is)
    (case q_0_7 => kit_is)
    (case q_0_8 => kit_is)
    (case q_0_9 => kit_is)
    (case q_0_10 => kit_is)
    (case q_0_11 => kit_is)
    (case q_0_v => kit_is)
    (case q_1_0 => kit_is)
    (case q_1_1 => kit_is)
    (case q_1_2 => kit_is)
    (case q_1_3 => kit_is)
    (case q_1_4 => kit_is)
    (case q_1_5 => kit_is)
    (case q_1_6 => kit_is)
    (case q_1_7 => kit_is)
    (case q_1_8 => kit_is)
    (case q_1_9 => kit_is)
    (case q_1_10 => kit_is)
    (case q_1_11 => kit_is)
    (case q_1_v => kit_is)
    (case q_2_0 => kit_is)
    (case q_2_1 => kit_is)
    (case q_2_2 => kit_is)
    (case q_2_3 => kit_is)
    (case q_2_4 => kit_is)
    (case q_2_5 => kit_is)
    (case q_2_6 => kit_is)
    (case q_2_7 => kit_is)
    (case q_2_8 => kit_is)
    (case q_2_9 => kit_is)
    (case q_2_10 => kit_is)
    (case q_2_11 => kit_is)
    (case q_2_v => kit_is)
    (case q_3_0 => kit_is)
    (case q_3_1 => kit_is)
    (case q_3_2 => kit_is)
    (case q_3_3 => kit_is)
    (case q_3_4 => kit_is)
    (case q_3_5 => kit_is)
    (case q_3_6 => kit_is)
    (case q_3_7 => kit_is)
    (case q_3_8 => kit_is)
    (case q_3_9 => kit_is)
    (case q_3_10 => kit_is)
    (case q_3_11 => kit_is)
    (case q_3_v => kit_is)
    (case q_4_0 => kit_is)
    (case q_4_1 => kit_is)
    (case q_4_2 => kit_is)
    (case q_4_3 => kit_is)
    (case q_4_4 => kit_is)
    (case q_4_5 => kit_is)
    (case q_4_6 => kit_is)
    (case q_4_7 => kit_is)
    (case q_4_8 => kit_is)
    (case q_4_9 => kit_is)
    (case q_4_10 => kit_is)
    (case q_4_11 => kit_is)
    (case q_4_v => kit_is)
    (case q_5_0 => kit_is)
    (case q_5_1 => kit_is)
    (case q_5_2 => kit_is)
    (case q_5_3 => kit_is)
    (case q_5_4 => kit_is)
    (case q_5_5 => kit_is)
    (case q_5_6 => kit_is)
    (case q_5_7 => kit_is)
    (case q_5_8 => kit_is)
    (case q_5_9 => kit_is)
    (case q_5_10 => kit_is)
    (case q_5_11 => kit_is)
    (case q_5_v => kit_is)
    (case q_6_0 => kit_is)
    (case q_6_1 => kit_is)
    (case q_6_2 => kit_is)
    (case q_6_3 => kit_is)
    (case q_6_4 => kit_is)
    (case q_6_5 => kit_is)
    (case q_6_6 => kit_is)
    (case q_6_7 => kit_is)
    (case q_6_8 => kit_is)
    (case q_6_9 => kit_is)
    (case q_6_10 => kit_is)
    (case q_6_11 => kit_is)
    (case q_6_v => kit_is)
    (case q_7_0 => kit_is)
    (case q_7_1 => kit_is)
    (case q_7_2 => kit_is)
    (case q_7_3 => kit_is)
    (case q_7_4 => kit_is)
    (case q_7_5 => kit_is)
    (case q_7_6 => kit_is)
    (case q_7_7 => kit_is)
    (case q_7_8 => kit_is)
    (case q_7_9 => kit_is)
    (case q_7_10 => kit_is)
    (case q_7_11 => kit_is)
    (case q_7_v => kit_is)
    (case q_8_0 => kit_is)
    (case q_8_1 => kit_is)
    (case q_8_2 => kit_is)
    (case q_8_3 => kit_is)
    (case q_8_4 => kit_is)
    (case q_8_5 => kit_is)
    (case q_8_6 => kit_is)
    (case q_8_7 => kit_is)
    (case q_8_8 => kit_is)
    (case q_8_9 => kit_is)
    (case q_8_10 => kit_is)
    (case q_8_11 => kit_is)
    (case q_8_v => kit_is)
    (case q_9_0 => kit_is)
    (case q_9_1 => kit_is)
    (case q_9_2 => kit_is)
    (case q_9_3 => kit_is)
    (case q_9_4 => kit_is)
    (case q_9_5 => kit_is)
    (case q_9_6 => kit_is)
    (case q_9_7 => kit_is)
    (case q_9_8 => kit_is)
    (case q_9_9 => kit_is)
    (case q_9_10 => kit_is)
    (case q_9_11 => kit_is)
    (case q_9_v => kit_is)
    (case q_10_0 => kit_is)
    (case q_10_1 => kit_is)
    (case q_10_2 => kit_is)
    (case q_10_3 => kit_is)
    (case q_10_4 => kit_is)
    (case q_10_5 => kit_is)
    (case q_10_6 => kit_is)
    (case q_10_7 => kit_is)
    (case q_10_8 => kit_is)
    (case q_10_9 => kit_is)
    (case q_10_10 => kit_is)
    (case q_10_11 => kit_is)
    (case q_10_v => kit_is)
    (case q_11_0 => kit_is)
    (case q_11_1 => kit_is)
    (case q_11_2 => kit_is)
    (case q_11_3 => kit_is)
    (case q_11_4 => kit_is)
    (case q_11_5 => kit_is)
    (case q_11_6 => kit_is)
    (case q_11_7 => kit_is)
    (case q_11_8 => kit_is)
    (case q_11_9 => kit_is)
    (case q_11_10 => kit_is)
    (case q_11_11 => kit_is)
    (case q_11_v => kit_is)
