import PyProof.Rows.All
import Wide.All
import OpenK.AllK
import Wide.FinOn
import HandS.ForExc
import HandS.Codes
import HandS.IsInst
import HandS.Wide
import HandS.EndBits
import HandS.ExcInit
import HandS.ExcIs
import HandS.MakeKw
import KE.KExcIs
import HandS.MakeKwOnly
import HandS.Comp
import HandS.ExcField
import HandS.Iter
import PyProof.StrOps2
import PyProof.ReprLoop
import PyProof.StrLaws
import HandS.HotCalls
import HandS.WordsExc
import HandS.Exc
import PySem.Challenge.RW_everyspan_k20_errors_of_strictness
import HandS.Property
import HandS.OwnEq
import KE.RegKIsAll
set_option Elab.async false
set_option linter.all false
set_option maxRecDepth 100000
/-! Own rules over the hand layer: powers of great ints; defs that are promised only where no text of an object is being made around them (for repr). -/
namespace Ev
open PySem PySem.Spec PyProof.Rows L2

/-! ### powers -/
def CPowW (i j : Int) : Prop := 0 ≤ j ∧ j ≤ 1000 ∧ i.natAbs < 2 ^ 2000
section
variable {X : Cx}
theorem op_powW : OpR X (binaryOp .Pow) (rI CPowW fun i j => .int (i ^ j.toNat)) := opI fun i j _ _ _ _ _ hc q => by
  obtain ⟨h0, h1, h2⟩ := hc
  refine pow_int h0 ?_ q
  have hb : Builtin.Int.intBits i ≤ 2000 := by
    have h3 := PySem.Flt.log2_lt_of (by decide : 0 < 2000) h2
    unfold Builtin.Int.intBits
    split <;> omega
  have h4 : (Builtin.Int.intBits i : Int) * j ≤ 2000 * 1000 := by
    have a1 : (Builtin.Int.intBits i : Int) ≤ 2000 := by omega
    exact Int.le_trans (Int.mul_le_mul_of_nonneg_right a1 h0) (Int.mul_le_mul_of_nonneg_left h1 (by decide))
  have h5 : (2 : Int) ^ 27 = 134217728 := by decide
  omega

/-! ### repr -/
/-- repr of data of any depth, where nothing around is being shown -/
def rRepr (K : PySem.W.Frag) : List V → Hp → VK → Prop := fun xs H Q => ∃ (x : V) (d : PyData), xs = [x] ∧ Dp K H x d ∧ d.showable = true ∧ d.hasDict = false ∧ d.depth ≤ 100 ∧ d.shown.length ≤ sizeLine ∧ Q (.str d.shown) H
theorem call_repr_data (hg : X.A.guards = some []) (hu : X.A.units + 200 < cLine) : CallR X (.builtin "repr") (rRepr X.K) := by
  intro pins s σ H xs us Q I r h
  obtain ⟨x, d, rfl, hd, hs, hn, hp, hz, q⟩ := h
  obtain ⟨u, rfl, ru⟩ := vals1 r
  obtain ⟨as, rd⟩ := Dp.reads I d x u hd ru
  have far : ∀ a : Addr, u = .ref a → wpAny (model X.prog X.w) X.A (call (.builtin "repr") [u]) (EP X pins σ Q) X.xe s := fun a e => by
    subst e
    exact repr_of_reads' rd hs (PyData.noDict_hsm hn) hg (by omega) (fun _ _ z => z) (fun h' u tk hk => ⟨.str d.shown, H, I.kept (t' := tk) hk, ⟨u, rfl⟩, q⟩) hz
  cases hd with
  | non =>
    cases (show u = Value.none from ru)
    exact PySem.P.repr_of_none ⟨.str _, H, I.tok _, ⟨_, rfl⟩, by simpa only [PyData.shown] using q⟩
  | bl b =>
    cases (show u = Value.bool b from ru)
    exact PySem.P.repr_of_bool ⟨.str _, H, I.tok _, ⟨_, rfl⟩, by simpa only [PyData.shown] using q⟩
  | int i =>
    obtain ⟨t, e⟩ := (show ∃ t, u = Value.int i t from ru)
    subst e
    exact PySem.P.repr_of_int (by simpa [PyData.showable] using hs) ⟨.str _, H, I.tok _, ⟨_, rfl⟩, by simpa only [PyData.shown] using q⟩
  | str y =>
    obtain ⟨t, e⟩ := (show ∃ t, u = Value.str y t from ru)
    subst e
    exact PySem.P.repr_of_str ⟨.str _, H, I.tok _, ⟨_, rfl⟩, by simpa only [PyData.shown] using q⟩ (by simpa only [PyData.shown] using hz)
  | @lst a xs ds e1 e2 => exact far a (show u = Value.ref a from ru)
  | @tup a xs ds e1 e2 => exact far a (show u = Value.ref a from ru)
end

/-! ### defs that show things -/
structure FnG (P : Program) (w : World) (K : PySem.W.Frag) (mg : Str → Option Value) (base : Heap) (CX : CXT) (k : Nat) (f : Addr) (fd : FuncData) (ps : List Str) (sp : Sp) : Prop where
  size : ∀ vs H Q E, sp vs H Q E → vs.length = ps.length
  does : ∀ (A : Around) (fr : List Env) (s : Shared) (H : Hp) (as : Args) (us : List Value) (vs : List V) (Q : VK) (E : XK),
    Room k A ∧ A.guards = some [] → Env0 P w K mg base A fr s H → BindsTo s fd as (ps.zip us) → Vals vs us → sp vs H Q E → codeAny (model P w) A (.call (.ref f) as) (CR CX fr P w H s Q E) s
theorem FnG.of {P : Program} {w : World} {K : PySem.W.Frag} {mg : Str → Option Value} {base : Heap} {CX : CXT} {k : Nat} {f : Addr} {fd : FuncData} {ps : List Str} {sp : Sp}
    (F : FnOk P w K mg base CX k f fd ps sp) : FnG P w K mg base CX k f fd ps sp :=
  ⟨F.len, fun A fr s H as us vs Q E hr e0 hb hv hs => F.run A fr s H as us vs Q E hr.1 e0 hb hv hs⟩
section
variable {X : Cx} {CX : CXT} {k : Nat} {f : Addr} {fd : FuncData} {ps : List Str} {sp : Sp} {E : XK} {x : Str} {p pos : Pos} {e : Expr} {es : List Expr} {t : TA}
/-- f(e, ..), all parameters given -/
theorem pe_callG (F : FnG X.prog X.w X.K X.mg X.base CX k f fd ps sp) (hr : Room k X.A) (hgu : X.A.guards = some []) (hg : Gl X x) (hm : X.mg x = some (.ref f)) (hk : PySem.W.keepIn X.K (.ref f) = true)
    (hb : Binds X.K fd ps []) (hx : Passes CX X E) (ha : PA X (e :: es) t) (hdb : (x == ("__debug__" : Str)) = false := by decide)
    (he : starEach (e :: es) X.env = (false, eval e X.env) :: starEach es X.env := by rfl) (hpl : (backTo pos (starEach es X.env)).any (·.1) = false := by rfl) :
    PE X (.Call (.Name x p) (e :: es) [] pos) (tCall sp [] E t) := ⟨fun pins s σ H Q I h => by
  refine wpAny_Call_Name_kw (ld_glob I hg hm ?_ hdb)
  refine PySem.W.callWith_K (h₀ := X.base) I.ok.mod.kin hk (thn (ha.run pos pins s σ H _ I h) fun us s1 got => ?_) he hpl
  obtain ⟨vs, H1, I1, r, q⟩ := got
  refine ⟨I1.kIn, ?_⟩
  rw [List.append_nil] at q
  have hl : (us ++ []).length = ps.length := by
    rw [List.append_nil, ← r.length]
    exact F.size _ _ _ _ q
  have hb1 := hb s1 us I1.kIn hl
  rw [List.append_nil] at hb1
  refine wpAny_call (codeAny_mono (F.does X.A X.stack s1 H1 ⟨us, []⟩ us vs Q E ⟨hr, hgu⟩ I1.env0 hb1 r q) fun res s' hq => ?_)
  rcases res with er | fl
  · exact hx pins σ H1 s1 er s' I1 hq
  · rcases fl with _ | _ | _ | u
    · exact False.elim hq
    · exact False.elim hq
    · exact False.elim hq
    · exact I1.after hq⟩
end
/-- a def by its body, which may lean on it that nothing is being shown around -/
theorem fnG_of {P : Program} {w : World} {K : PySem.W.Frag} {mg : Str → Option Value} {base : Heap} {x qual : Str} {st : Stmt} {f : Addr} {fd : FuncData} {N ps : List Str} {k : Nat} {sp : Sp} (F : Fun K x qual st f fd) (S : FnScope N ps (defScope st))
    (len : ∀ vs H Q E, sp vs H Q E → vs.length = ps.length)
    (body : ∀ (cdv : Value) (A : Around) (fr : List Env) (s : Shared) (H : Hp) (vs : List V) (Q : VK) (E : XK), A.guards = some [] → Room k (A.deeper (envOfC qual (defScope st) s.heap.objs.size f cdv)) → sp vs H Q E →
      ∃ t, PSs (cxOf CX0 P w K mg base N qual (defScope st) f cdv A fr s H E).nox (defBody st) t ∧ t { nx := fun _ H' => Q .non H', rt := Q } (start N vs) H) :
    FnG P w K mg base CX0 (k + 1) f fd ps sp := by
  obtain ⟨oc, od, kV, doc, pm, an, cdv, ct, osl, rfl, lk, hcd⟩ := F.ex
  refine ⟨len, fun A fr s H as us vs Q E hr e0 hb rv hsp => ?_⟩
  obtain ⟨hroom, hgu⟩ := hr
  have up : ∀ b o, base.get? b = some o → s.heap.get? b = some o := fun b o z => (e0.bs b o z).1
  have KX : K.In s.heap := e0.mod.kin.keeps up
  have par : ∀ y ∈ ps.zip us, (defScope st).names.lookup y.1 = some .local ∨ ((defScope st).names.lookup y.1 = some .cell ∧ ((cellsFrom (s.heap.objs.size + 1) (defScope st).names []).lookup y.1).isSome = true) := by
    rintro ⟨n, v⟩ hy
    rcases S.par n (List.of_mem_zip hy).1 with q | q
    · exact Or.inl q
    · exact Or.inr ⟨q, PySem.W.cellsFrom_some _ _ _ (Or.inl q)⟩
  refine codeAny_call_function hroom.depth (KX _ _ lk) rfl S.co S.gen rfl (PySem.W.codeRec_of KX hcd) (hb _ _ _ _ ?_)
  refine wpAny_newFunctionEnv_cells S.kind par fun env he s1 ic => ?_
  subst he
  refine ⟨(e0.mod.nolimit.keeps up).keeps ic.toInCall.keep, codeAny_func ?_⟩
  obtain ⟨t, ht, hq⟩ := body cdv A fr s H vs Q E hgu (hroom.deeper _) hsp
  have I : Inv (cxOf CX0 P w K mg base N qual (defScope st) f cdv A fr s H E) [] (start N vs) H s1 := inv_start S hroom.hd e0 (len _ _ _ _ hsp) rv ic
  refine wpAny_mono (ht.nox.run [] s1 (start N vs) H _ I hq) (fun fl s' hs => ?_) fun er s' hs => hs
  rcases fl with _ | _ | _ | u
  · obtain ⟨σ', H', J, q⟩ := hs
    exact ⟨V.non, H', J.os, J.bare, J.base, J.hok, rfl, q⟩
  · exact hs.elim fun _ z => z.elim fun _ z => False.elim z.2
  · exact hs.elim fun _ z => z.elim fun _ z => False.elim z.2
  · obtain ⟨v, σ', H', J, r2, q⟩ := hs
    exact ⟨v, H', J.os, J.bare, J.base, J.hok, r2, q⟩
end Ev

namespace Ev
open PySem PySem.Spec PyProof.Rows L2
/-- such a def as a constant of the module -/
structure CalG (P : Program) (w : World) (K : PySem.W.Frag) (mg : Str → Option Value) (base : Heap) (k : Nat) (x : Str) (sp : Sp) : Prop where
  ex : ∃ (f : Addr) (fd : FuncData) (ps : List Str), FnG P w K mg base CX0 k f fd ps sp ∧ mg x = some (.ref f) ∧ PySem.W.keepIn K (.ref f) = true ∧ Binds K fd ps []
theorem pe_cG {X : Cx} {k j : Nat} {x : Str} {sp : Sp} {p pos : Pos} {e : Expr} {es : List Expr} {t : TA} (c : CalG X.prog X.w X.K X.mg X.base k x sp) (hr : Room j X.A) (hk : k ≤ j) (hgu : X.A.guards = some []) (hg : Gl X x) (ha : PA X (e :: es) t)
    (hdb : (x == ("__debug__" : Str)) = false := by decide) (he : starEach (e :: es) X.env = (false, eval e X.env) :: starEach es X.env := by rfl) (hpl : (backTo pos (starEach es X.env)).any (·.1) = false := by rfl) :
    PE X (.Call (.Name x p) (e :: es) [] pos) (tCall sp [] E0 t) := by
  obtain ⟨f, fd, ps, F, hm, kp, b⟩ := c.ex
  exact pe_callG F (hr.mono hk) hgu hg hm kp b pass0 ha hdb he hpl
/-- a def that shows nothing, likewise -/
structure CalN (P : Program) (w : World) (K : PySem.W.Frag) (mg : Str → Option Value) (base : Heap) (k : Nat) (x : Str) (sp : Sp) : Prop where
  ex : ∃ (f : Addr) (fd : FuncData) (ps : List Str), FnOk P w K mg base CX0 k f fd ps sp ∧ mg x = some (.ref f) ∧ PySem.W.keepIn K (.ref f) = true ∧ Binds K fd ps []
theorem pe_cN {X : Cx} {k j : Nat} {x : Str} {sp : Sp} {p pos : Pos} {e : Expr} {es : List Expr} {t : TA} (c : CalN X.prog X.w X.K X.mg X.base k x sp) (hr : Room j X.A) (hk : k ≤ j) (hg : Gl X x) (ha : PA X (e :: es) t)
    (hdb : (x == ("__debug__" : Str)) = false := by decide) (he : starEach (e :: es) X.env = (false, eval e X.env) :: starEach es X.env := by rfl) (hpl : (backTo pos (starEach es X.env)).any (·.1) = false := by rfl) :
    PE X (.Call (.Name x p) (e :: es) [] pos) (tCall sp [] E0 t) := by
  obtain ⟨f, fd, ps, F, hm, kp, b⟩ := c.ex
  exact pe_call F (hr.mono hk) hg hm kp b .nil pass0 ha hdb he hpl
theorem hun {k : Nat} {A : Around} (r : Room k A) : A.units + 200 < cLine := by
  have := r.un
  omega
theorem hun64 {k : Nat} {A : Around} (r : Room k A) : A.units + 64 < cLine := by
  have := r.un
  omega
end Ev

/-! ### the end of a law row, the law's def promised only where nothing is being shown around -/
namespace Ev
open PySem PySem.Spec PyProof.Rows L2
/-- what a call from outside leaves -/
abbrev Left (s₁ : Shared) : Result → Shared → Prop := fun r s' => r = .ok (.ret (.bool true)) ∧ OldK s₁.heap s'.heap ∧ s'.os = s₁.os ∧ AllBare s'.gens
section
variable {P : Program} {w : World} {K : PySem.W.Frag} {mg mb : Str → Option Value} {k : Nat} {fa a : Addr} {fd : FuncData} {x : Str} {sp : Sp} {s₁ : Shared} {vs : List Value} {ns : List Int}
/-- over an abstract heap H that tracks the script alone, or nothing -/
theorem from_heap {H : Hp} (KX : K.In s₁.heap) (hns : s₁.heap.Ns mainGlobals mg) (hb : s₁.heap.Ns builtinsNs mb) (hbb : ∀ x : Str, x ≠ "__name__" → mb x = bootBuiltins x) (hlim : s₁.heap.NoLimit) (hg : s₁.gens = #[])
    (ha : s₁.heap.get? a = some { cls := .type "list", data := .seq vs.toArray }) (hr : Room k callerA)
    (F : ∀ base : Heap, K.In base → base.Ns mainGlobals mg → FnG P w K mg base CX0 k fa fd [x] sp) (hbind : ∀ (s : Shared) (u : Value), BindsTo s fd ⟨[u], []⟩ [(x, u)])
    (hO : Only H) (hok : HOk P w H s₁.heap) (only : ∀ b u, H b = some u → b = a) (hK : ∀ u, H a = some u → K.lookup a = none)
    (hsp : sp [.ref a] H (fun v _ => v = .bl true) fun _ _ _ => False) : codeAny (model P w) callerA (.call (.ref fa) ⟨[.ref a], []⟩) (Left s₁) s₁ := by
  have none_of : ∀ {b : Addr}, b ≠ a → H b = none := fun {b} nb => by
    cases q : H b with
    | none => rfl
    | some u => exact absurd (only b u q) nb
  -- a namespace is no list: it stays in the heap without what is tracked
  have keepNs : ∀ {b : Addr} {m : Str → Option Value}, s₁.heap.Ns b m → (hidT s₁.heap H).Ns b m := fun {b m} hm => by
    obtain ⟨o, es, ep, e1, e2, r⟩ := hm
    refine ⟨o, es, ep, hidT_get e1 (none_of fun z => ?_), e2, r⟩
    rw [z, ha] at e1
    have z1 := Option.some.inj e1
    rw [← z1] at e2
    exact absurd e2 (fun q => by cases q)
  have KB : K.In (hidT s₁.heap H) := fun b o e => by
    refine hidT_get (KX b o e) ?_
    cases q : H b with
    | none => rfl
    | some u =>
      have eb := only b u q
      rw [eb] at q e
      rw [hK u q] at e
      cases e
  have lim : (hidT s₁.heap H).NoLimit := by
    obtain ⟨mc, h1, h2⟩ := hlim
    exact ⟨mc, keepNs h1, h2⟩
  have env : Env0 P w K mg (hidT s₁.heap H) callerA [] s₁ H := {
    frames := rfl
    mod := ⟨KB, keepNs hns, ⟨mb, keepNs hb, hbb⟩, lim⟩
    bs := fun b o e => of_hidT e
    bsz := Nat.le_of_eq (hidT_size _ _)
    funs := trivial
    frf := fun b z => by
      have z' : b ∈ ([] : List Addr) := z
      cases z'
    hok := hok
    bare := .of_eq hg }
  refine codeAny_mono ((F _ KB (keepNs hns)).does callerA [] s₁ H ⟨[.ref a], []⟩ [.ref a] [.ref a] _ _ ⟨hr, rfl⟩ env (hbind s₁ (.ref a)) (Paired.cons rfl Paired.nil) hsp) fun r s' h => ?_
  rcases r with er | fl
  · exact False.elim h
  · rcases fl with _ | _ | _ | u
    · exact False.elim h
    · exact False.elim h
    · exact False.elim h
    · obtain ⟨v, H', os, bare, un, hok', r', q⟩ := h
      have q' : v = .bl true := q
      subst q'
      obtain rfl : u = Value.bool true := r'
      refine ⟨rfl, OldK.of_keep fun b o e => ?_, os, bare⟩
      rcases hO b with z | ⟨ob, xs, z⟩
      · refine un.keep b o e z (fun m => ?_) (fun m => ?_)
        · have m' : b ∈ ([] : List Addr) := m
          cases m'
        · cases m
      · have e1 : s₁.heap.get? b = some ob := (hok b _ z).1
        have e2 : s'.heap.get? b = some ob := (hok' b _ (un.frzs b ob _ z)).1
        rw [e] at e1
        rw [e2, ← Option.some.inj e1]
theorem law_callG (KX : K.In s₁.heap) (hns : s₁.heap.Ns mainGlobals mg) (hb : s₁.heap.Ns builtinsNs mb) (hbb : ∀ x : Str, x ≠ "__name__" → mb x = bootBuiltins x) (hlim : s₁.heap.NoLimit) (hg : s₁.gens = #[])
    (ha : s₁.heap.get? a = some { cls := .type "list", data := .seq vs.toArray }) (hi : IntsAre vs ns) (hl : ns.length ≤ sizeLine) (hr : Room k callerA)
    (F : ∀ base : Heap, K.In base → base.Ns mainGlobals mg → FnG P w K mg base CX0 k fa fd [x] sp) (hbind : ∀ (s : Shared) (u : Value), BindsTo s fd ⟨[u], []⟩ [(x, u)])
    (hsp : ∀ H : Hp, Only H → SqL K H a (ns.map V.int) → sp [.ref a] H (fun v _ => v = .bl true) fun _ _ _ => False) : codeAny (model P w) callerA (.call (.ref fa) ⟨[.ref a], []⟩) (Left s₁) s₁ := by
  have rv : Vals (ns.map V.int) vs := vals_ints hi
  cases hk : K.lookup a with
  | some o =>
    -- one of the module's own objects: nothing is tracked
    have e := KX a o hk
    rw [ha] at e
    cases e
    have n0 : ∀ b u, (fun _ => none : Hp) b = some u → False := fun b u z => by cases z
    refine from_heap (H := fun _ => none) KX hns hb hbb hlim hg ha hr F hbind (fun _ => .inl rfl) (fun b u z => (n0 b u z).elim) (fun b u z => (n0 b u z).elim) (fun u z => (n0 a u z).elim) (hsp _ (fun _ => .inl rfl) (.inr ⟨_, vs.toArray, _, hk, rfl, rfl, rfl, ?_, rv⟩))
    rw [List.size_toArray, hi.length]
    exact hl
  | none =>
    have at1 : ∀ b u, (upd (fun _ => none) a (.frz { cls := .type "list", data := .seq vs.toArray } (.lst (ns.map V.int)))) b = some u → b = a ∧ u = .frz { cls := .type "list", data := .seq vs.toArray } (.lst (ns.map V.int)) := fun b u z => by
      by_cases hb : b = a
      · subst hb
        rw [upd_same] at z
        exact ⟨rfl, (Option.some.inj z).symm⟩
      · rw [upd_ne hb] at z
        cases z
    have o1 : Only (upd (fun _ => none) a (.frz { cls := .type "list", data := .seq vs.toArray } (.lst (ns.map V.int)))) := fun b => by
      by_cases hb : b = a
      · subst hb
        exact .inr ⟨_, _, upd_same⟩
      · exact .inl (by rw [upd_ne hb])
    refine from_heap (H := upd (fun _ => none) a (.frz { cls := .type "list", data := .seq vs.toArray } (.lst (ns.map V.int)))) KX hns hb hbb hlim hg ha hr F hbind o1 (fun b u z => ?_) (fun b u z => (at1 b u z).1) (fun _ _ => hk) (hsp _ o1 (.inl (.inr ⟨_, upd_same⟩)))
    obtain ⟨eb, eu⟩ := at1 b u z
    subst eb
    subst eu
    exact ⟨ha, by rw [List.length_map]; exact hl, vs, _, rv, ha⟩
end
/-- the goal that the head leaves, from the law's promise -/
theorem walk_ofG {l : PySem.W.OpenLaw} {n k : Nat} {q : Program} {loose : List Str} {XP : (Str → Option Value) → Heap → Prop} {YP : World → Heap → Prop} {d : DefRec} {K : Params → PySem.W.Frag} {sp : PySem.W.Frag → Sp} {x : Str}
    (hn : l.most = some n) (hn2 : n ≤ sizeLine) (hdf : d.params.defaults = []) (hr : Room k callerA) (hY : ∀ (w : World) (h : Heap), YP w h → (K w.params).In h)
    (F : ∀ (w : World) (mg : Str → Option Value) (fa : Addr) (h : Heap), (K w.params).In h → h.Ns mainGlobals mg → mg d.name = some (.ref fa) →
      ∃ fd : FuncData, (∀ (s : Shared) (u : Value), BindsTo s fd ⟨[u], []⟩ [(x, u)]) ∧ ∀ base : Heap, (K w.params).In base → base.Ns mainGlobals mg → FnG l.prog w (K w.params) mg base CX0 k fa fd [x] (sp (K w.params)))
    (hsp : ∀ (K : PySem.W.Frag) (H : Hp) (a : Addr) (ns : List Int), ns.length ≤ n → SqL K H a (ns.map V.int) → sp K [.ref a] H (fun v _ => v = .bl true) fun _ _ _ => False) :
    PySem.W.WalkO q loose XP YP l.row.toRowW d [] (fun f vs => PySem.call f vs) := by
  refine Att.attach_call hn hdf fun w s₀ s₁ mg mb fa o pm cd doc a vs ns G Y ho hd hcd hmg hobj hints hlen hg => ?_
  have KX := hY w _ Y
  obtain ⟨fd, hb, hF⟩ := F w mg fa _ KX G.T.g hmg
  exact law_callG KX G.T.g G.T.b G.T.builtins G.T.nolimit hg hobj hints (Nat.le_trans hlen hn2) hr hF hb fun H _ hS => hsp (K w.params) H a ns hlen hS
end Ev

set_option maxHeartbeats 2000000
/-! An own exception with an own __init__ as a value: made by position or by one keyword, its field read, asked by isinstance. -/
namespace Ev
open PySem PySem.Spec PyProof.Rows L2 PySem.HandSPX
section
variable {M : Model} {prog : Program} {w : World} {A : Around} {E : Value → Shared → Prop} {R : Result → Shared → Prop} {h : Heap} {g : Array GenState} {d : Drawn} {t : Nat} {os : OsState}
variable {nm q : Str} {C N : Addr} {bs bm bmB : List Value} {hdct : Bool} {sn : List Str} {sub : List Value} {ab : Bool} {col : Option Bool} {dd : Option Addr} {k0 k1 k2 k3 k5 : Option Value} {B newId initId : String} {kw : List (Str × Value)}
/-- BaseException.__new__ takes any keywords -/
theorem kw_check_new (F : ExcBaseFacts B newId initId bmB) (hT : ∀ X : String, bm.contains (.type X) = bmB.contains (.type X)) {Q : Unit → Shared → Prop}
    (hC : h.get? C = some (excClassObj nm q C N bs bm hdct sn sub ab col dd k0 k1 k2 k3 k5 newId)) (hq : Q () ⟨h, g, d, t, os⟩) (hk : kw.length = 1) : wpAny M A (checkBuiltinCall newId ⟨[.ref C], kw⟩) Q E ⟨h, g, d, t, os⟩ := by
  obtain ⟨kv, rfl⟩ : ∃ kv, kw = [kv] := by
    match kw, hk with
    | [kv], _ => exact ⟨kv, rfl⟩
  have inB : (Value.ref C :: bm).contains (.type B) = true := by rw [List.contains_cons, hT, F.hasB, Bool.or_true]
  have noStar := F.noStar
  simp only [checkBuiltinCall, F.newKind, F.newSplit, F.newRow]
  repeat (first | refine wpAny_loadPart_at hC ?_ | (refine wpAny_isSubtype_exc hC ?_; rw [inB]) | refine wpAny_staticBase_exc hC ?_ | refine wpAny_madeBy_exc hC ?_ | simp only [bne_self_eq_false, Bool.false_eq_true, if_false] | wp_step)
  exact hq
theorem kw_new (F : ExcBaseFacts B newId initId bmB) (hT : ∀ X : String, bm.contains (.type X) = bmB.contains (.type X))
    (hC : h.get? C = some (excClassObj nm q C N bs bm hdct sn sub ab col dd k0 k1 k2 k3 k5 newId))
    (hq : R (.ok (.ret (.ref (h.objs.size + 1)))) ⟨(h.push (W.kdv_tup [])).push (excO C h.objs.size), g, d, t, os⟩) : codeAny (model prog w) A (.builtin newId ⟨[.ref C], kw⟩) R ⟨h, g, d, t, os⟩ := by
  have hends := F.ends
  have inB : (Value.ref C :: bm).contains (.type B) = true := by rw [List.contains_cons, hT, F.hasB, Bool.or_true]
  have inA : (Value.ref C :: bm).contains (.type "AttributeError") = false := by rw [List.contains_cons, hT, F.noAttr]; rfl
  have inN : (Value.ref C :: bm).contains (.type "NameError") = false := by rw [List.contains_cons, hT, F.noName]; rfl
  refine codeAny_builtinAt F.entry ?_
  unfold Builtin.«BaseException.__new__»
  refine PySem.wpAt_bind ?_
  show PySem.wpAt _ _ _ (stack >>= _) _ _ _
  refine PySem.wpAt_bind (PySem.wpAt_stack fun p below => PySem.wpAt_of_wpAny ?_)
  wp_walk
  refine PySem.wpAt_of_wpAny ?_
  rw [F.owner]
  repeat (first | with_reducible refine wpAny_madeHere_exc F.canon hC ?_ | with_reducible refine wpAny_loadPart_at hC ?_ | (with_reducible refine wpAny_isSubtype_exc hC ?_; first | rw [inB] | rw [inA] | rw [inN]) | wp_step)
  show R _ _
  rw [Heap.size_push]
  exact hq
theorem kw_check_call (hC : h.get? C = some (excClassObj nm q C N bs bm hdct sn sub ab col dd k0 k1 k2 k3 k5 newId)) (hk : kw.length = 1) {Q : Unit → Shared → Prop} (hq : Q () ⟨h, g, d, t, os⟩) :
    wpAny M A (checkBuiltinCall "type.__call__" ⟨[.ref C], kw⟩) Q E ⟨h, g, d, t, os⟩ := by
  obtain ⟨kv, rfl⟩ : ∃ kv, kw = [kv] := by
    match kw, hk with
    | [kv], _ => exact ⟨kv, rfl⟩
  have f3 := tc_sub
  have isT : (⟨h, g, d, t, os⟩ : Shared).TypeIs (.ref C) "type" := ⟨_, hC, rfl⟩
  simp only [checkBuiltinCall, tc_kind, tc_split]
  repeat (any_goals (first | assumption | with_reducible refine wpAny_loadPart_at hC ?_ | with_reducible refine wpAny_onRaise ?_ | with_reducible refine wpAny_map ?_ | wp_step))
theorem kw_type_call (F : ExcBaseFacts B newId initId bmB) (hT : ∀ X : String, bm.contains (.type X) = bmB.contains (.type X)) {fI : Addr} {Q : PySem.Fin → Shared → Prop} (hk : kw.length = 1)
    (hC : h.get? C = some (excClassObj nm q C N bs bm hdct sn sub ab col dd k0 k1 k2 k3 k5 newId))
    (hi : W.Looks (model prog w) h (typeLookup (.ref C) "__init__") (some (.ref fI))) (hb : ∀ self, W.Looks (model prog w) h (bindSpecial (.ref fI) self) (.ref fI, [self]))
    (hq : codeAny (model prog w) A (.call (.ref fI) ⟨[.ref (h.objs.size + 1)], kw⟩)
      (fun r s' => match r with | .ok (.ret v) => v = .none ∧ Q (.done (.ret (.ref (h.objs.size + 1)))) s' | .ok _ => False | .error e => E e s')
      ⟨(h.push (W.kdv_tup [])).push (excO C h.objs.size), g, d, t, os⟩) :
    wpAny (model prog w) A (Builtin.«type.__call__» ⟨[.ref C], kw⟩) Q E ⟨h, g, d, t, os⟩ := by
  repeat (first | with_reducible refine wpAny_loadPart_at hC ?_ | with_reducible refine wpAny_madeBy_exc hC ?_ | wp_step)
  refine codeAny_call_builtin_code (Code.quiet_builtin _ F.quiet) (kw_check_new F hT hC ?_ hk)
  refine kw_new F hT hC ?_
  show wpAny _ _ _ _ _ _
  have up : ∀ b o, h.get? b = some o → ((h.push (W.kdv_tup [])).push (excO C h.objs.size)).get? b = some o := fun b o e => Heap.get?_push_of_some _ (Heap.get?_push_of_some _ e)
  have hC2 := up _ _ hC
  have hnew : ((h.push (W.kdv_tup [])).push (excO C h.objs.size)).get? (h.objs.size + 1) = some (excO C h.objs.size) := by heap_get
  have inC : (Value.ref C :: bm).contains (.ref C) = true := by simp
  have i1 := hi.keeps up
  have b1 := (hb (.ref (h.objs.size + 1))).keeps up
  unfold isInstance
  repeat (first | with_reducible refine wpAny_loadPart_at hnew ?_ | (with_reducible refine wpAny_isSubtype_exc hC2 ?_; rw [inC]) | wp_step)
  show wpAny _ _ (typeLookup (.ref C) _) _ _ _
  refine i1.at ?_
  refine wpAny_holding (wpAny_bind (b1.at ?_))
  refine wpAny_bind (wpAny_call (codeAny_mono hq fun r s' z => ?_))
  rcases r with e | (_ | _ | _ | v)
  · exact z
  · exact z.elim
  · exact z.elim
  · exact z.elim
  · obtain ⟨rfl, z⟩ := z
    first
      | exact wpAny_pure (wpAny_pure z)
      | (wp_walk; exact z)
/-- C(n = v), C an own exception class with an own __init__ -/
theorem kw_call (F : ExcBaseFacts B newId initId bmB) (hT : ∀ X : String, bm.contains (.type X) = bmB.contains (.type X)) {fI : Addr} (hk : kw.length = 1)
    (hC : h.get? C = some (excClassObj nm q C N bs bm hdct sn sub ab col dd k0 k1 k2 k3 k5 newId))
    (hi : W.Looks (model prog w) h (typeLookup (.ref C) "__init__") (some (.ref fI))) (hb : ∀ self, W.Looks (model prog w) h (bindSpecial (.ref fI) self) (.ref fI, [self]))
    (hq : codeAny (model prog w) (A.under (.builtin "type.__call__" ⟨[.ref C], kw⟩)) (.call (.ref fI) ⟨[.ref (h.objs.size + 1)], kw⟩) (W.InitBack (h.objs.size + 1) R)
      ⟨(h.push (W.kdv_tup [])).push (excO C h.objs.size), g, d, t, os⟩) : codeAny (model prog w) A (.call (.ref C) ⟨[], kw⟩) R ⟨h, g, d, t, os⟩ := by
  have f1 := tc_lookup
  have f2 := tc_bind (.ref C)
  have isT : (⟨h, g, d, t, os⟩ : Shared).TypeIs (.ref C) "type" := ⟨_, hC, rfl⟩
  refine codeAny_of_tree ?_
  show wpAny _ _ (callAny (.ref C) _) _ _ _
  repeat (any_goals (first | assumption | with_reducible refine wpAny_loadPart_at hC ?_ | wp_step))
  refine ⟨rfl, ?_⟩
  refine codeAny_call_builtin_at (Code.quiet_builtin _ (by decide +kernel)) entry_typeCall (kw_check_call hC hk (kw_type_call F hT hk hC hi hb ?_))
  refine codeAny_mono hq fun r s' z => ?_
  rcases r with e | (_ | _ | _ | v) <;> exact z
end
end Ev

set_option maxHeartbeats 2000000
/-! The rules for such a value. -/
namespace Ev
open PySem PySem.Spec PyProof.Rows L2 PySem.HandSPX
/-- C(e), C(n = e): C an own exception class, its __init__ keeping sp -/
def tMkV (C : Addr) (sp : Sp) (ta : TA) : TE := fun σ H Q => ta σ H fun vs H1 => ∃ y, vs = [y] ∧ ∀ a, H1 a = none → sp [.ref a, y] (upd H1 a (exo a C none)) (fun v H2 => v = .non ∧ Q (.ref a) H2) (fun _ _ _ => False)
section
variable {X : Cx} {CX : CXT} {k : Nat} {C fI : Addr} {fd : FuncData} {ps : List Str} {sp : Sp} {x : Str} {p pos : Pos} {e : Expr} {es : List Expr} {ta : TA} {kws : List Keyword} {n : Str}
/-- what follows the call of __init__ -/
theorem mkv_end {pins : List (Addr × Obj)} {σ : L2.St} {H : Hp} {s : Shared} {a : Addr} {Q : VK} {r : Result} {s' : Shared} {E : XK} (I : Inv X pins σ H s) (hx : Passes CX X (fun _ _ _ => False))
    (hq : CR CX X.stack X.prog X.w H s (fun v H2 => v = .non ∧ Q (.ref a) H2) (fun _ _ _ => False) r s') :
    PySem.W.InitBack a (fun r s2 => match r with | .ok (.ret u) => EP X pins σ Q u s2 | .ok _ => False | .error er => X.xe er s2) r s' := by
  rcases r with er | (_ | _ | _ | u)
  · exact hx pins σ H s er s' I hq
  · exact False.elim hq
  · exact False.elim hq
  · exact False.elim hq
  · obtain ⟨v, H2, I2, rv, ev, q⟩ := I.after hq
    subst ev
    exact ⟨rv, .ref a, H2, I2, rfl, q⟩
theorem pe_oexV (T : OexC X.K C) (iC : PySem.W.findIn X.K (.ref C) "__init__" = some (some (.ref fI))) (tI : PySem.W.typeIn X.K (.ref fI) = some (.type "function"))
    (F1 : FnOk X.prog X.w X.K X.mg X.base CX k fI fd ps sp) (hr : Room (k + 1) X.A) (hb : Binds X.K fd ps []) (hx : Passes CX X (fun _ _ _ => False)) (hg : Gl X x) (hm : X.mg x = some (.ref C)) (ha : PA X (e :: es) ta)
    (hdb : (x == ("__debug__" : Str)) = false := by decide) (he : starEach (e :: es) X.env = (false, eval e X.env) :: starEach es X.env := by rfl) (hpl : (backTo pos (starEach es X.env)).any (·.1) = false := by rfl) :
    PE X (.Call (.Name x p) (e :: es) [] pos) (tMkV C sp ta) := ⟨fun pins s σ H Q I h => by
  obtain ⟨nm, q, N, bs, bm, sn, sub, ab, col, dd, k0, k1, k2, k3, k5, hC, hbm⟩ := T.cls
  refine wpAny_Call_Name_kw (ld_glob I hg hm ?_ hdb)
  refine PySem.W.callWith_K (h₀ := X.base) I.ok.mod.kin T.kC (thn (ha.run pos pins s σ H _ I h) fun us s1 got => ?_) he hpl
  obtain ⟨vs, H1, I1, r1, y, rfl, q1⟩ := got
  refine ⟨I1.kIn, ?_⟩
  obtain ⟨hp, g, dr, tk, os⟩ := s1
  have up : ∀ b o, hp.get? b = some o → ((hp.push (PySem.W.kdv_tup us)).push (excO C hp.objs.size)).get? b = some o := fun b o z => Heap.get?_push_of_some _ (Heap.get?_push_of_some _ z)
  have hnew : ((hp.push (PySem.W.kdv_tup us)).push (excO C hp.objs.size)).get? (hp.objs.size + 1) = some (excO C hp.objs.size) := by heap_get
  have I2 : Inv X pins σ (upd H1 (hp.objs.size + 1) (exo (hp.objs.size + 1) C none)) ⟨(hp.push (PySem.W.kdv_tup us)).push (excO C hp.objs.size), g, dr, tk, os⟩ :=
    I1.laid (t' := tk) (a := hp.objs.size + 1) (o := exo (hp.objs.size + 1) C none) (h' := (hp.push (PySem.W.kdv_tup us)).push (excO C hp.objs.size)) up (Nat.le_succ _) (exo_ok hnew)
  have hsp := q1 (hp.objs.size + 1) (I1.hok.fresh (Nat.le_succ _))
  have r2 : Vals [V.ref (hp.objs.size + 1), y] (Value.ref (hp.objs.size + 1) :: us) := .cons rfl r1
  have hl : (Value.ref (hp.objs.size + 1) :: us ++ []).length = ps.length := by
    rw [List.append_nil, ← F1.len _ _ _ _ hsp, r2.length]
  have hb1 := hb ⟨(hp.push (PySem.W.kdv_tup us)).push (excO C hp.objs.size), g, dr, tk, os⟩ (Value.ref (hp.objs.size + 1) :: us) I2.kIn hl
  rw [List.append_nil] at hb1
  have hus : us.length ≤ sizeLine := by
    rw [← Paired.length r1, sizeLine_eq]
    exact (by decide : 1 ≤ 16777216)
  show wpAny _ _ (call (.ref C) us) _ _ _
  refine wpAny_call (call_own F.excBase_ValueError (fun Y => refsVE_contains Y bm hbm) (I1.kIn _ _ hC) (PySem.W.looks_findIn I1.kIn iC) (fun self => PySem.W.bind_fn I1.kIn self tI) hus ?_)
  refine codeAny_mono (F1.run _ X.stack _ _ ⟨Value.ref (hp.objs.size + 1) :: us, []⟩ (Value.ref (hp.objs.size + 1) :: us) _ _ (fun _ _ _ => False) (hr.make C us []) (I2.env0.make C us []) hb1 r2 hsp) fun r s' hq => ?_
  have z := mkv_end (E := fun _ _ _ => False) I2 hx hq
  rcases r with er | (_ | _ | _ | u) <;> exact z⟩
/-- C(n = e) -/
theorem pe_oexK (T : OexC X.K C) (iC : PySem.W.findIn X.K (.ref C) "__init__" = some (some (.ref fI))) (tI : PySem.W.typeIn X.K (.ref fI) = some (.type "function"))
    (F1 : FnOk X.prog X.w X.K X.mg X.base CX k fI fd ps sp) (hr : Room (k + 1) X.A) (hb : ∀ (s : Shared) (a u : Value), BindsTo s fd ⟨[a], [(n, u)]⟩ (ps.zip [a, u])) (hx : Passes CX X (fun _ _ _ => False)) (hg : Gl X x) (hm : X.mg x = some (.ref C)) (hkw : PK X kws ta)
    (hall : (backToKw pos (keywordEach kws X.env)).all (·.1.isSome) = true := by rfl) (hks : (backToKw pos (keywordEach kws X.env)).filterMap (·.1) = [n] := by rfl) (hdb : (x == ("__debug__" : Str)) = false := by decide)
    (hpl : ((backTo pos (starEach [] X.env)).any (·.1) || (backToKw pos (keywordEach kws X.env)).any (·.1.isNone)) = false := by rfl) :
    PE X (.Call (.Name x p) [] kws pos) (tMkV C sp ta) := ⟨fun pins s σ H Q I h => by
  obtain ⟨nm, q, N, bs, bm, sn, sub, ab, col, dd, k0, k1, k2, k3, k5, hC, hbm⟩ := T.cls
  refine wpAny_Call_Name_kw (ld_glob I hg hm ?_ hdb)
  refine PySem.W.callWith_KW0 (h₀ := X.base) I.ok.mod.kin T.kC hall ?_ hpl
  refine thn (hkw.run pos pins s σ H _ I h) fun us s1 got => ?_
  obtain ⟨vs, H1, I1, r1, y, rfl, q1⟩ := got
  refine ⟨I1.kIn, ?_⟩
  rw [hks]
  obtain ⟨u, rfl, ru⟩ := vals1 r1
  obtain ⟨hp, g, dr, tk, os⟩ := s1
  have up : ∀ b o, hp.get? b = some o → ((hp.push (PySem.W.kdv_tup [])).push (excO C hp.objs.size)).get? b = some o := fun b o z => Heap.get?_push_of_some _ (Heap.get?_push_of_some _ z)
  have hnew : ((hp.push (PySem.W.kdv_tup [])).push (excO C hp.objs.size)).get? (hp.objs.size + 1) = some (excO C hp.objs.size) := by heap_get
  have I2 : Inv X pins σ (upd H1 (hp.objs.size + 1) (exo (hp.objs.size + 1) C none)) ⟨(hp.push (PySem.W.kdv_tup [])).push (excO C hp.objs.size), g, dr, tk, os⟩ :=
    I1.laid (t' := tk) (a := hp.objs.size + 1) (o := exo (hp.objs.size + 1) C none) (h' := (hp.push (PySem.W.kdv_tup [])).push (excO C hp.objs.size)) up (Nat.le_succ _) (exo_ok hnew)
  have hsp := q1 (hp.objs.size + 1) (I1.hok.fresh (Nat.le_succ _))
  have r2 : Vals [V.ref (hp.objs.size + 1), y] [Value.ref (hp.objs.size + 1), u] := .cons rfl (.cons ru .nil)
  show wpAny _ _ (call (.ref C) [] [(n, u)]) _ _ _
  refine wpAny_call (kw_call F.excBase_ValueError (fun Y => refsVE_contains Y bm hbm) rfl (I1.kIn _ _ hC) (PySem.W.looks_findIn I1.kIn iC) (fun self => PySem.W.bind_fn I1.kIn self tI) ?_)
  refine codeAny_mono (F1.run _ X.stack _ _ ⟨[Value.ref (hp.objs.size + 1)], [(n, u)]⟩ [Value.ref (hp.objs.size + 1), u] _ _ (fun _ _ _ => False) (hr.make C [] [(n, u)]) (I2.env0.make C [] [(n, u)]) (hb _ _ _) r2 hsp) fun r s' hq => ?_
  have z := mkv_end (E := fun _ _ _ => False) I2 hx hq
  rcases r with er | (_ | _ | _ | v) <;> exact z⟩
/-- what the written part says of the class, so that an object of it may be read and asked -/
structure ExV (K : PySem.W.Frag) (C : Addr) : Prop where
  ga : PySem.W.findIn K (.ref C) "__getattribute__" = some (some (.builtin "BaseException.__getattribute__"))
  gg : PySem.W.findIn K (.ref C) "__getattr__" = some none
  ex : PySem.W.subIn K (.ref C) (.type "BaseException") = some true
  hd : PySem.W.hasDictIn K C = true
  ac : PySem.W.findIn K (.ref C) "__class__" = some (some (.builtin "object.__class__"))
  sn : PySem.W.specialIn K (.builtin "object.__class__") "__get__" = some (some (.builtin "getset_descriptor.__get__"))
  tk : PySem.W.takesIn K (.builtin "object.__class__") = some true
  mr : PySem.W.mroIn K C (.type "object") = some true
/-- e.f of such an object, f in its own dict -/
def tXv (K : PySem.W.Frag) (f : Str) (te : TE) : TE := fun σ H Q => te σ H fun x H1 => ∃ (a C dx : Addr) (fs : List (Str × V)) (v : V), x = .ref a ∧ H1 a = some (exo a C (some dx)) ∧ H1 dx = some (exd dx fs) ∧ ExV K C ∧ PySem.W.findIn K (.ref C) f = some none ∧ fs.lookup f = some v ∧ Q v H1
theorem pe_xv {o : Expr} {to : TE} {f : Str} (he : PE X o to) (hb : attributeBase o f X.env (eval o X.env) = eval o X.env := by rfl) : PE X (.Attribute o f pos) (tXv X.K f to) := ⟨fun pins s σ H Q I h => by
  refine attr_of hb (thn (he.run pins s σ H _ I h) fun u s1 got => ?_)
  obtain ⟨x, H1, I1, rx, a, C, dx, fs, v, rfl, ea, ed, T, hno, hl, q⟩ := got
  obtain rfl : u = Value.ref a := rx
  obtain ⟨t1, ho⟩ := exo_at I1.hok ea
  obtain ⟨mA, hns, hrel⟩ := exd_at I1.hok ed
  obtain ⟨od, hod, look⟩ := lookIn_ns hns
  obtain ⟨u, hu, ru⟩ := RelO.some_of (v := v) (o := mA f) (by rw [← hl]; exact hrel f)
  have J : PySem.W.InstAt s1.heap a { cls := .ref C, dict := some dx, data := .fields #[.ref t1, .none, .none, .none, .bool false, .none] } C (some od) := ⟨ho, rfl, rfl, hod⟩
  exact exc_get I1.kIn J T.ga T.gg T.ex (PySem.W.findObj_own T.hd hno rfl (by rw [look, hu])) (handed_of ru) ⟨v, H1, I1.tok _, ru, q⟩⟩
/-- isinstance(e, c) of such an object -/
def rIsV (K : PySem.W.Frag) : List V → Hp → VK → Prop := fun xs H Q => ∃ (a C dx : Addr) (fs : List (Str × V)) (c : V) (u : Value) (b : Bool), xs = [.ref a, c] ∧ ClsV c u ∧ H a = some (exo a C (some dx)) ∧ H dx = some (exd dx fs) ∧ ExV K C ∧ PySem.W.kitOne K (.ref C) u = some b ∧ Q (.bl b) H
/-- isinstance(e, (c1, c2, ..)) -/
def rIsVT (K : PySem.W.Frag) : List V → Hp → VK → Prop := fun xs H Q => ∃ (a C dx tp : Addr) (fs : List (Str × V)) (cs : List V) (us : List Value) (b : Bool), xs = [.ref a, .ref tp] ∧ H tp = some (.tup cs) ∧ Paired ClsV cs us ∧ H a = some (exo a C (some dx)) ∧ H dx = some (exd dx fs) ∧ ExV K C ∧
  PySem.W.kitAny K (.ref C) us = some b ∧ Q (.bl b) H
theorem ExV.kit {K : PySem.W.Frag} {C a : Addr} {ox : Obj} {od : Option Obj} (T : ExV K C) : PySem.W.KitX K (.ref a) (.ref C) (fun h => PySem.W.InstAt h a ox C od) := by
  obtain ⟨cd, hc, _⟩ := PySem.W.any_some T.hd
  exact PySem.W.kitx_exc (by rw [hc]; rfl) T.ga T.gg T.ex T.ac T.sn T.tk T.mr
theorem inst_of {pins : List (Addr × Obj)} {σ : L2.St} {H : Hp} {s : Shared} {a dx : Addr} {fs : List (Str × V)} (I : Inv X pins σ H s) (ea : H a = some (exo a C (some dx))) (ed : H dx = some (exd dx fs)) : ∃ ox od, PySem.W.InstAt s.heap a ox C (some od) := by
  obtain ⟨t1, ho⟩ := exo_at I.hok ea
  obtain ⟨mA, hns, _⟩ := exd_at I.hok ed
  obtain ⟨od, hod, _⟩ := lookIn_ns hns
  exact ⟨_, od, ho, rfl, rfl, hod⟩
theorem call_isV : CallR X (.builtin "isinstance") (rIsV X.K) := by
  intro pins s σ H xs us Q I r h
  obtain ⟨a, C, dx, fs, c, u, b, rfl, k, ea, ed, T, e, q⟩ := h
  obtain ⟨u1, u2, rfl, r1, r2⟩ := vals2 r
  obtain rfl : u1 = Value.ref a := r1
  have e2 := k.eq r2
  subst e2
  obtain ⟨ox, od, J⟩ := inst_of I ea ed
  exact PySem.W.kia_one T.kit I.kIn J e (fun z => nomatch z) fun tk => ⟨.bl b, H, I.tok tk, rfl, q⟩
theorem call_isVT : CallR X (.builtin "isinstance") (rIsVT X.K) := by
  intro pins s σ H xs us Q I r h
  obtain ⟨a, C, dx, tp, fs, cs, vs, b, rfl, etp, k, ea, ed, T, e, q⟩ := h
  obtain ⟨u1, u2, rfl, r1, r2⟩ := vals2 r
  obtain rfl : u1 = Value.ref a := r1
  obtain rfl : u2 = Value.ref tp := r2
  obtain ⟨ox, od, J⟩ := inst_of I ea ed
  obtain ⟨_, its, rv, ob, ho, hc, n, hd⟩ := (show ObjOk X.prog X.w H s.heap tp (.tup cs) from I.hok tp _ etp)
  have ei := ClsV.all k rv
  subst ei
  obtain ⟨oc, od', oda, osl⟩ := ob
  dsimp only at hc hd
  subst hc hd
  exact PySem.W.kia_tup T.kit I.kIn J ho e (fun z => nomatch z) fun tk => ⟨.bl b, H, I.tok tk, rfl, q⟩
end
end Ev

set_option maxHeartbeats 2000000
/-! Readings step by step: one small lemma a construct, tried by one word. -/
namespace Ev
open PySem PySem.Spec PyProof.Rows L2
section
variable {K : PySem.W.Frag} {σ : L2.St} {H : Hp} {Q : VK} {D : Ends} {ta tb tc te : TE} {x y v : V} {xs ys : List V} {t u : TS} {a p l b : Addr} {o o' : HO} {i j : Int}
/-! heaps -/
theorem lk_new {u : HO} (h : H a = some u) (hp : H p = none) : upd H p o a = some u := by
  rw [upd_ne (ne_of_none h hp)]
  exact h
theorem lk_ne {u : HO} (ne : a ≠ p) (h : H a = some u) : upd H p o a = some u := by
  rw [upd_ne ne]
  exact h
theorem no_new (h : H a = none) (ne : a ≠ p) : upd H p o a = none := by
  rw [upd_ne ne]
  exact h
theorem no_back (h : upd H p o a = none) : H a = none := by
  by_cases e : a = p
  · subst e
    rw [upd_same] at h
    cases h
  · rw [upd_ne e] at h
    exact h
theorem ne_back (h : upd H p o a = none) : a ≠ p := fun e => by
  subst e
  rw [upd_same] at h
  cases h
theorem upd_none : upd H p o a = none ↔ a ≠ p ∧ H a = none := ⟨fun h => ⟨ne_back h, no_back h⟩, fun h => no_new h.2 h.1⟩
theorem lk_new' {u : HO} (hp : H p = none) (h : H a = some u) : upd H p o a = some u := lk_new h hp
/-! values -/
theorem rd_var {i : Nat} (h : σ[i]? = some (some v)) (q : Q v H) : tVar i σ H Q := ⟨v, h, q⟩
theorem rd_c (q : Q v H) : tC v σ H Q := q
theorem rd_op {r : R2} (h : ta σ H fun x H1 => tb σ H1 fun y H2 => r x y H2 Q) : tOp r ta tb σ H Q := h
theorem rd_un {r : V → Hp → VK → Prop} (h : ta σ H fun x H1 => r x H1 Q) : tUn r ta σ H Q := h
theorem rd_rI0 {g : Int → Int → V} (q : Q (g i j) H) : rI0 g (.int i) (.int j) H Q := ⟨i, j, rfl, rfl, q⟩
theorem rd_rI {C : Int → Int → Prop} {g : Int → Int → V} (c : C i j) (q : Q (g i j) H) : rI C g (.int i) (.int j) H Q := ⟨i, j, rfl, rfl, c, q⟩
theorem rd_rU {g : Int → V} (q : Q (g i) H) : rU g (.int i) H Q := ⟨i, rfl, q⟩
theorem rd_ixL (h : SqL K H a xs) (e : atI xs i = some v) (q : Q v H) : rIxL K (.ref a) (.int i) H Q := ⟨a, xs, i, v, rfl, rfl, h, e, q⟩
theorem rd_ixT (h : SqT K H a xs) (e : atI xs i = some v) (q : Q v H) : rIxT K (.ref a) (.int i) H Q := ⟨a, xs, i, v, rfl, rfl, h, e, q⟩
theorem rd_eq (h : scal x y = true) (q : Q (.bl (decide (x = y))) H) : rEq x y H Q := ⟨h, q⟩
theorem rd_ne (h : scal x y = true) (q : Q (.bl (!decide (x = y))) H) : rNe x y H Q := ⟨h, q⟩
theorem rd_tup {ta : TA} (h : ta σ H fun xs H1 => xs.length ≤ sizeLine ∧ ∀ p, H1 p = none → Q (.ref p) (upd H1 p (.tup xs))) : tTup ta σ H Q := h
theorem rd_lst {ta : TA} (h : ta σ H fun xs H1 => xs.length ≤ sizeLine ∧ ∀ p, H1 p = none → Q (.ref p) (upd H1 p (.lst xs))) : tLst ta σ H Q := h
theorem rd_size {n : Nat} {A : Prop} (hn : n ≤ 16777216) (h : A) : n ≤ sizeLine ∧ A := ⟨by rw [sizeLine_eq]; exact hn, h⟩
theorem rd_nil {Q : List V → Hp → Prop} (q : Q [] H) : tNil σ H Q := q
theorem rd_cons {tr : TA} {Q : List V → Hp → Prop} (h : ta σ H fun x H1 => tr σ H1 fun xs H2 => Q (x :: xs) H2) : tCons ta tr σ H Q := h
theorem rd_cb {r : List V → Hp → VK → Prop} {t : TA} (h : t σ H fun vs H1 => r vs H1 Q) : tCB r t σ H Q := h
theorem rd_call {sp : Sp} {dvs : List V} {E : XK} {t : TA} (h : t σ H fun vs H1 => sp (vs ++ dvs) H1 Q E) : tCall sp dvs E t σ H Q := h
theorem rd_sl {r : V → Option Int → Option Int → Hp → VK → Prop} {tl th : TO} (h : te σ H fun x H1 => tl σ H1 fun l H2 => th σ H2 fun u H3 => r x l u H3 Q) : tSl r te tl th σ H Q := h
theorem rd_no {Q : Option Int → Hp → Prop} (q : Q none H) : tNoPart σ H Q := q
theorem rd_part {Q : Option Int → Hp → Prop} (h : te σ H fun x H1 => ∃ i, x = .int i ∧ Q (some i) H1) : tPart te σ H Q := h
theorem rd_ex {Q : Int → Prop} (q : Q i) : ∃ j : Int, V.int i = .int j ∧ Q j := ⟨i, rfl, q⟩
theorem rd_slL {lo hi : Option Int} (h : SqL K H a xs) (q : ∀ p, H p = none → Q (.ref p) (upd H p (.lst (cutV xs lo hi)))) : rSlL K (.ref a) lo hi H Q := ⟨a, xs, rfl, h, q⟩
theorem rd_cat (h1 : H a = some (.lst xs)) (h2 : H b = some (.lst ys)) (hz : xs.length + ys.length ≤ 16777216) (q : ∀ p, H p = none → Q (.ref p) (upd H p (.lst (xs ++ ys)))) : rCat (.ref a) (.ref b) H Q :=
  ⟨a, b, xs, ys, rfl, rfl, h1, h2, by rw [sizeLine_eq]; exact hz, q⟩
theorem rd_ifE {c : TT} (h : c σ H fun k H1 => if k = true then ta σ H1 Q else tb σ H1 Q) : tIf c ta tb σ H Q := h
/-! tests -/
theorem rd_test {Q : Bool → Hp → Prop} (h : te σ H fun x H1 => ∃ k, x = .bl k ∧ Q k H1) : tTest te σ H Q := h
theorem rd_tB {Q : Bool → Hp → Prop} (h : te σ H fun x H1 => ∃ k, x = .bl k ∧ Q k H1) : tB te σ H Q := h
theorem rd_bl {c : Bool} {Q : Bool → Prop} (q : Q c) : ∃ k, V.bl c = .bl k ∧ Q k := ⟨c, rfl, q⟩
theorem rd_not {c : TT} {Q : Bool → Hp → Prop} (h : c σ H fun k H1 => Q (!k) H1) : tNot c σ H Q := h
theorem rd_and {c d : TT} {Q : Bool → Hp → Prop} (h : c σ H fun k H1 => if k = true then d σ H1 Q else Q false H1) : tAnd c d σ H Q := h
theorem rd_or {c d : TT} {Q : Bool → Hp → Prop} (h : c σ H fun k H1 => if k = true then Q true H1 else d σ H1 Q) : tOr c d σ H Q := h
theorem rd_notV (h : ta σ H fun x H1 => ∃ c, x = .bl c ∧ Q (.bl (!c)) H1) : tNotV ta σ H Q := h
theorem rd_andV (h : ta σ H fun x H1 => ∃ c, x = .bl c ∧ if c = true then tb σ H1 Q else Q (.bl false) H1) : tAndV ta tb σ H Q := h
theorem rd_orV (h : ta σ H fun x H1 => ∃ c, x = .bl c ∧ if c = true then Q (.bl true) H1 else tb σ H1 Q) : tOrV ta tb σ H Q := h
/-! statements -/
theorem rd_seq (h : t { D with nx := u D } σ H) : tSeq t u D σ H := h
theorem rd_next (h : D.nx σ H) : tNext D σ H := h
theorem rd_ret (h : te σ H D.rt) : tRet te D σ H := h
theorem rd_retN (h : D.rt .non H) : tRetN D σ H := h
theorem rd_if {c : TT} (h : c σ H fun k H1 => if k = true then t D σ H1 else u D σ H1) : tIfS c t u D σ H := h
theorem rd_drop (h : te σ H fun _ H1 => D.nx σ H1) : tDrop te D σ H := h
theorem rd_asg {g : TG} (h : te σ H fun x H1 => g x σ H1 D.nx) : tAsg te g D σ H := h
theorem rd_name {i : Nat} {Q : L2.St → Hp → Prop} (q : Q (σ.set i (some v)) H) : gName i v σ H Q := q
theorem rd_gtup {n : Nat} {g : TGs} {Q : L2.St → Hp → Prop} (h : SqT K H a xs) (e : xs.length = n) (q : g xs σ H Q) : gTup K n g (.ref a) σ H Q := ⟨a, xs, rfl, h, e, q⟩
theorem rd_gnil {Q : L2.St → Hp → Prop} (q : Q σ H) : gNil [] σ H Q := ⟨rfl, q⟩
theorem rd_gcons {g : TG} {gs : TGs} {Q : L2.St → Hp → Prop} (q : g v σ H fun σ' H' => gs xs σ' H' Q) : gCons g gs (v :: xs) σ H Q := ⟨v, xs, rfl, q⟩
theorem rd_gsub {to ti : TE} {s : TSet} {Q : L2.St → Hp → Prop} (h : to σ H fun o H1 => ti σ H1 fun i H2 => s o i v H2 fun H3 => Q σ H3) : gSub to ti s v σ H Q := h
theorem rd_setL {k : Nat} {Q : Hp → Prop} (h : H a = some (.lst xs)) (e : ixN xs.length i = some k) (q : Q (upd H a (.lst (xs.set k v)))) : rSetL (.ref a) (.int i) v H Q := ⟨a, xs, i, k, rfl, rfl, h, e, q⟩
/-! ifs -/
theorem rd_ite {p : Prop} [Decidable p] {A B : Prop} (h1 : p → A) (h2 : ¬ p → B) : if decide p = true then A else B := by
  by_cases h : p
  · rw [if_pos (decide_eq_true h)]
    exact h1 h
  · rw [if_neg (by rw [decide_eq_false h]; exact Bool.false_ne_true)]
    exact h2 h
theorem rd_iteN {p : Prop} [Decidable p] {A B : Prop} (h1 : ¬ p → A) (h2 : p → B) : if (!decide p) = true then A else B := by
  by_cases h : p
  · rw [if_neg (by rw [decide_eq_true h]; exact Bool.false_ne_true)]
    exact h2 h
  · rw [if_pos (by rw [decide_eq_false h]; rfl)]
    exact h1 h
theorem rd_T {A B : Prop} (h : A) : if true = true then A else B := by
  rw [if_pos rfl]
  exact h
theorem rd_F {A B : Prop} (h : B) : if false = true then A else B := by
  rw [if_neg Bool.false_ne_true]
  exact h
theorem rd_True {A B : Prop} {i : Decidable True} (h : A) : @ite Prop True i A B := by
  rw [if_pos trivial]
  exact h
theorem rd_False {A B : Prop} {i : Decidable False} (h : B) : @ite Prop False i A B := by
  rw [if_neg (fun z => z)]
  exact h
/-! built-ins -/
theorem rd_int {A : Int → Prop} {B : Prop} (q : A i) : (∃ j, [V.int i] = [.int j] ∧ A j) ∨ B := .inl ⟨i, rfl, q⟩
theorem rd_intB {c : Bool} {A : Int → Prop} (q : A (if c then 1 else 0)) : (∃ j, [V.bl c] = [.int j] ∧ A j) ∨ ∃ k, [V.bl c] = [.bl k] ∧ A (if k then 1 else 0) := .inr ⟨c, rfl, q⟩
theorem rd_one {A : Int → Prop} (q : A i) : ∃ j, [V.int i] = [.int j] ∧ A j := ⟨i, rfl, q⟩
theorem rd_two {A : Int → Int → Prop} (q : A i j) : ∃ k l, [V.int i, V.int j] = [.int k, .int l] ∧ A k l := ⟨i, j, rfl, q⟩
theorem rd_len {A : List V → Prop} (h : SqL K H a xs) (q : A xs) : ∃ p zs, [V.ref a] = [.ref p] ∧ (SqL K H p zs ∨ SqT K H p zs) ∧ A zs := ⟨a, xs, rfl, .inl h, q⟩
theorem rd_lenT {A : List V → Prop} (h : SqT K H a xs) (q : A xs) : ∃ p zs, [V.ref a] = [.ref p] ∧ (SqL K H p zs ∨ SqT K H p zs) ∧ A zs := ⟨a, xs, rfl, .inr h, q⟩
theorem at_int {ns : List Int} {i : Int} (h0 : 0 ≤ i) (h : i < (ns.length : Int)) : ∃ z, atI (ns.map V.int) i = some (.int z) := by
  obtain ⟨k, rfl⟩ : ∃ k : Nat, i = (k : Int) := ⟨i.toNat, by omega⟩
  have hk : k < ns.length := by omega
  exact ⟨ns[k], atI_nat (by rw [List.getElem?_map, List.getElem?_eq_getElem hk]; rfl)⟩
theorem pow_cond {i j : Int} (h0 : 0 ≤ j) (h3 : j ≤ 1000) (h1 : -10000000000000000000000000000000000000000 < i) (h2 : i < 10000000000000000000000000000000000000000) : CPowW i j := by
  have e : (10000000000000000000000000000000000000000 : Nat) < 2 ^ 2000 := by decide +kernel
  exact ⟨h0, h3, by omega⟩
/-! loops and comprehensions: first what they go over, then the turns -/
theorem rd_rng1 {ta : TA} {R : It → Hp → Prop} (h : ta σ H fun vs H1 => ∃ j : Int, vs = [.int j] ∧ -(2 ^ 62) ≤ j ∧ j < 2 ^ 62 ∧ R (Itr 0 j.toNat) H1) : iRng1 ta σ H R := h
theorem rd_rg {A : Prop} (h1 : 0 ≤ i) (h2 : i ≤ 1000000000000) (q : A) : -(2 ^ 62) ≤ i ∧ i < 2 ^ 62 ∧ A := ⟨by omega, by omega, q⟩
theorem rd_overL {R : It → Hp → Prop} (h : te σ H fun x H1 => ∃ a, x = .ref a ∧ (∃ xs, SqL K H1 a xs) ∧ R (Itl K a) H1) : iList K te σ H R := h
theorem rd_overT {R : It → Hp → Prop} (h : te σ H fun x H1 => ∃ a, x = .ref a ∧ (∃ xs, SqT K H1 a xs) ∧ R (Itt K a) H1) : iTup K te σ H R := h
theorem rd_atL {A : Addr → Prop} (h : SqL K H a xs) (q : A a) : ∃ b, V.ref a = .ref b ∧ (∃ ys, SqL K H b ys) ∧ A b := ⟨a, rfl, ⟨xs, h⟩, q⟩
theorem rd_atT {A : Addr → Prop} (h : SqT K H a xs) (q : A a) : ∃ b, V.ref a = .ref b ∧ (∃ ys, SqT K H b ys) ∧ A b := ⟨a, rfl, ⟨xs, h⟩, q⟩
theorem rd_forA {ta : TA} {g : TG} {tb : TS} (h : iRng1 ta σ H fun J H1 => tFor (fun _ H' R => R J H') g tb D σ H1) : tFor (iRng1 ta) g tb D σ H := h
theorem rd_forB {g : TG} {tb : TS} (h : iList K te σ H fun J H1 => tFor (fun _ H' R => R J H') g tb D σ H1) : tFor (iList K te) g tb D σ H := h
theorem rd_forC {g : TG} {tb : TS} (h : iTup K te σ H fun J H1 => tFor (fun _ H' R => R J H') g tb D σ H1) : tFor (iTup K te) g tb D σ H := h
theorem rd_lcA {ta : TA} {g : TG} {tt : TT} {vs : List Nat} (h : iRng1 ta σ H fun J H1 => tLc (fun _ H' R => R J H') g tt te vs σ H1 Q) : tLc (iRng1 ta) g tt te vs σ H Q := h
theorem rd_lcB {tl : TE} {g : TG} {tt : TT} {vs : List Nat} (h : iList K tl σ H fun J H1 => tLc (fun _ H' R => R J H') g tt te vs σ H1 Q) : tLc (iList K tl) g tt te vs σ H Q := h
theorem rd_lcC {tl : TE} {g : TG} {tt : TT} {vs : List Nat} (h : iTup K tl σ H fun J H1 => tLc (fun _ H' R => R J H') g tt te vs σ H1 Q) : tLc (iTup K tl) g tt te vs σ H Q := h
theorem rd_forR {lo : Int} {n : Nat} {g : TG} {tb : TS} (Pv : Nat → L2.St → Hp → Prop) (h0 : Pv 0 σ H) (hs : ∀ i σ H, i < n → Pv i σ H → g (.int (lo + i)) σ H fun σ2 H2 => tb { D with nx := Pv (i + 1), ct := Pv (i + 1), bk := D.nx } σ2 H2)
    (hd : ∀ σ H, Pv n σ H → D.nx σ H) : tFor (fun _ H' R => R (Itr lo n) H') g tb D σ H := for_range Pv h0 hs hd
theorem rd_forL {g : TG} {tb : TS} (Pv : Nat → L2.St → Hp → Prop) (h0 : Pv 0 σ H) (hl : ∀ i σ H, i ≤ xs.length → Pv i σ H → SqL K H a xs) (hs : ∀ i x σ H, xs[i]? = some x → Pv i σ H → g x σ H fun σ2 H2 => tb { D with nx := Pv (i + 1), ct := Pv (i + 1), bk := D.nx } σ2 H2)
    (hd : ∀ σ H, Pv xs.length σ H → D.nx σ H) : tFor (fun _ H' R => R (Itl K a) H') g tb D σ H := for_list Pv h0 hl hs hd
theorem rd_forT {g : TG} {tb : TS} (Pv : Nat → L2.St → Hp → Prop) (h0 : Pv 0 σ H) (hl : ∀ i σ H, i ≤ xs.length → Pv i σ H → SqT K H a xs) (hs : ∀ i x σ H, xs[i]? = some x → Pv i σ H → g x σ H fun σ2 H2 => tb { D with nx := Pv (i + 1), ct := Pv (i + 1), bk := D.nx } σ2 H2)
    (hd : ∀ σ H, Pv xs.length σ H → D.nx σ H) : tFor (fun _ H' R => R (Itt K a) H') g tb D σ H := for_tup Pv h0 hl hs hd
/-- [e for x in range(n)], e a value of the turn that makes nothing new -/
theorem rd_lcN {s n : Nat} (f : Nat → V) (hn : n ≤ 16777215) (he : ∀ (i : Nat) (H' : Hp) (Q' : VK), i < n → Q' (f i) H' → te ((σ.set s none).set s (some (.int (0 + i)))) H' Q')
    (q : ∀ l, H l = none → Q (.ref l) (upd H l (.lst ((List.range n).map f)))) : tLc (fun _ H' R => R (Itr 0 n) H') (gName s) tYes te [s] σ H Q := fun l hl => by
  have w1 : ∀ x : Option V, L2.wipe ((L2.wipe σ [s]).set s x) [s] = L2.wipe σ [s] := fun x => by
    show ((σ.set s none).set s x).set s none = σ.set s none
    rw [List.set_set, List.set_set]
  refine lc_range (fun i H' => H' = upd H l (.lst ((List.range i).map f))) rfl (fun i H' hi e => ?_) (fun H' e => ?_)
  · subst e
    refine ⟨w1 _, ?_⟩
    dsimp only [tYes]
    rw [if_pos rfl]
    refine he i _ _ hi ?_
    refine ⟨_, upd_same, ?_, ?_⟩
    · rw [List.length_map, List.length_range, sizeLine_eq]
      omega
    · rw [upd_upd, List.range_succ, List.map_append]
      rfl
  · subst e
    exact q l hl
theorem rd_strs {i j : Str} {A : Str → Str → Prop} (hz : i.length + j.length ≤ sizeLine) (q : A i j) : ∃ k l, V.str i = .str k ∧ V.str j = .str l ∧ k.length + l.length ≤ sizeLine ∧ A k l := ⟨i, j, rfl, rfl, hz, q⟩
/-- xs.append(e) -/
theorem rd_bm {T : String} {r : V → List V → Hp → VK → Prop} {t : TA} (h : te σ H fun x H1 => tyV K T x H1 ∧ t σ H1 fun xs H2 => r x xs H2 Q) : tBM K T r te t σ H Q := h
theorem rd_tyL {A : Prop} (h : SqL K H a xs) (q : A) : tyV K "list" (.ref a) H ∧ A := ⟨.inl ⟨rfl, xs, h⟩, q⟩
theorem rd_append (h : H a = some (.lst xs)) (hz : xs.length < 16777216) (q : Q .non (upd H a (.lst (xs ++ [y])))) : rAppend (.ref a) [y] H Q := ⟨a, xs, y, rfl, rfl, h, by rw [sizeLine_eq]; exact hz, q⟩
/-- a text of what x is -/
theorem rd_repr {d : PyData} (h : Dp K H x d) (h1 : d.showable = true) (h2 : d.hasDict = false) (h3 : d.depth ≤ 100) (h4 : d.shown.length ≤ sizeLine) (q : Q (.str d.shown) H) : rRepr K [x] H Q := ⟨x, d, rfl, h, h1, h2, h3, h4, q⟩
end
/-! ### exceptions as values -/
/-- at a: an error of the class at C with this value -/
def ExAt (H : Hp) (a C : Addr) (v : V) : Prop := ∃ d, H a = some (exo a C (some d)) ∧ H d = some (exd d [(("value" : Str), v)])
theorem ExAt.mono {H H' : Hp} {a C : Addr} {v : V} (h : ExAt H a C v) (s : Same H H') : ExAt H' a C v := by
  obtain ⟨d, h1, h2⟩ := h
  exact ⟨d, s _ _ h1, s _ _ h2⟩
/-- the error class x at C -/
structure ExT (K : PySem.W.Frag) (mg : Str → Option Value) (x : Str) (C fI : Addr) : Prop where
  c : OexC K C
  i : PySem.W.findIn K (.ref C) "__init__" = some (some (.ref fI))
  t : PySem.W.typeIn K (.ref fI) = some (.type "function")
  g : mg x = some (.ref C)
  v : ExV K C
  n : PySem.W.findIn K (.ref C) "value" = some none
theorem ExAt.put {H : Hp} {a C p : Addr} {v : V} {xs : List V} {o : HO} (h : ExAt H a C v) (hp : H p = some (.lst xs)) : ExAt (upd H p o) a C v := by
  obtain ⟨d, h1, h2⟩ := h
  have n1 : a ≠ p := ne_of h1 hp fun z => by
    have z' : HO.ext _ = HO.lst xs := z
    cases z'
  have n2 : d ≠ p := ne_of h2 hp fun z => by
    have z' : HO.ext _ = HO.lst xs := z
    cases z'
  exact ⟨d, lk_ne n1 h1, lk_ne n2 h2⟩
/-- self.value = value -/
def spInit (K : PySem.W.Frag) : Sp := fun vs H Q _ => ∃ (a C : Addr) (v : V), vs = [.ref a, v] ∧ H a = some (exo a C none) ∧ OexC K C ∧ PySem.W.findIn K (.ref C) "value" = some none ∧
  ∀ d, H d = none → d ≠ a → Q .non (upd (upd H d (exd d [(("value" : Str), v)])) a (exo a C (some d)))
theorem same_lk {H H' : Hp} {a : Addr} {u : HO} (s : Same H H') (h : H a = some u) : H' a = some u := s _ _ h
theorem same_new {H H' : Hp} {p : Addr} {o : HO} (s : Same H H') (h : H' p = none) : Same H (upd H' p o) := fun b u e => lk_new (s b u e) h
theorem same_put {H H' : Hp} {p : Addr} {o : HO} (s : Same H H') (h : H p = none) : Same H (upd H' p o) := fun b u e => by
  rw [upd_ne (ne_of_none e h)]
  exact s b u e
theorem Same.new {H : Hp} {p : Addr} {o : HO} (h : H p = none) : Same H (upd H p o) := fun b u e => lk_new e h
section
variable {K : PySem.W.Frag} {mg : Str → Option Value} {σ : L2.St} {H : Hp} {v : V} {x : Str} {C fI : Addr}
theorem rd_mk {Q : Addr → Hp → Prop} (T : ExT K mg x C fI) (q : ∀ a H', ExAt H' a C v → Same H H' → H a = none → Q a H') :
    ∃ y, [v] = [y] ∧ ∀ a, H a = none → spInit K [.ref a, y] (upd H a (exo a C none)) (fun u H2 => u = .non ∧ Q a H2) (fun _ _ _ => False) := by
  refine ⟨v, rfl, fun a ha => ⟨a, C, v, rfl, upd_same, T.c, T.n, fun d hd ne => ⟨rfl, q a _ ⟨d, upd_same, ?_⟩ (fun b o e => ?_) ha⟩⟩⟩
  · rw [upd_ne ne, upd_same]
  · have h1 : b ≠ a := ne_of_none e ha
    have h2 : b ≠ d := ne_of_none (lk_new e ha) hd
    rw [upd_ne h1, upd_ne h2, upd_ne h1]
    exact e
theorem rd_mkv {sp : Sp} {ta : TA} {Q : VK} (h : ta σ H fun vs H1 => ∃ y, vs = [y] ∧ ∀ a, H1 a = none → sp [.ref a, y] (upd H1 a (exo a C none)) (fun v H2 => v = .non ∧ Q (.ref a) H2) (fun _ _ _ => False)) : tMkV C sp ta σ H Q := h
theorem rd_xv {Q : VK} {te : TE} {f : Str} (h : te σ H fun x H1 => ∃ (a C dx : Addr) (fs : List (Str × V)) (v : V), x = .ref a ∧ H1 a = some (exo a C (some dx)) ∧ H1 dx = some (exd dx fs) ∧ ExV K C ∧ PySem.W.findIn K (.ref C) f = some none ∧ fs.lookup f = some v ∧ Q v H1) : tXv K f te σ H Q := h
theorem rd_value {a : Addr} {Q : V → Prop} (h : ExAt H a C v) (T : ExT K mg x C fI) (q : Q v) :
    ∃ (a' C : Addr) (dx : Addr) (fs : List (Str × V)) (v' : V), V.ref a = .ref a' ∧ H a' = some (exo a' C (some dx)) ∧ H dx = some (exd dx fs) ∧ ExV K C ∧ PySem.W.findIn K (.ref C) "value" = some none ∧ fs.lookup ("value" : Str) = some v' ∧ Q v' := by
  obtain ⟨d, h1, h2⟩ := h
  exact ⟨a, C, d, _, v, rfl, h1, h2, T.v, T.n, by simp [List.lookup], q⟩
/-- isinstance(e, c) -/
theorem rd_isV {a : Addr} {c : V} {u : Value} {b : Bool} {Q : VK} (h : ExAt H a C v) (T : ExV K C) (hc : ClsV c u) (e : PySem.W.kitOne K (.ref C) u = some b) (q : Q (.bl b) H) : rIsV K [.ref a, c] H Q := by
  obtain ⟨d, h1, h2⟩ := h
  exact ⟨a, C, d, _, c, u, b, rfl, hc, h1, h2, T, e, q⟩
theorem rd_isi {y c : V} {t u : Value} {b : Bool} {Q : VK} (hc : ClsV c u) (ty : TyX K H y t) (e : PySem.W.kitOne K t u = some b) (q : Q (.bl b) H) : rIsi K [y, c] H Q := ⟨y, c, t, u, b, rfl, hc, ty, e, q⟩
end
end Ev

set_option maxHeartbeats 2000000
/-! Caught errors of own classes with a value of their own; makings that may raise in a try; enumerate. -/
namespace Ev
open PySem PySem.Spec PyProof.Rows L2 PySem.HandSPX
/-- what the suite knows of its error -/
structure Held (K : PySem.W.Frag) (H : Hp) (cls : Value) (d : Option Addr) (C : Addr) (fs : List (Str × V)) : Prop where
  c : cls = .ref C
  d : ∃ dd, d = some dd ∧ H dd = some (.xd fs)
  v : ExV K C
theorem held_at {X : Cx} {pins : List (Addr × Obj)} {pn : List (Addr × Obj)} {σ : L2.St} {H : Hp} {s : Shared} {a C : Addr} {oe : Obj} {cls : Value} {d : Option Addr} {fs : List (Str × V)} (I : Inv (X.suite a ((a, oe) :: pn)) pins σ H s) (hz : Zc cls d oe) (hf : ∃ vs, oe.data = .fields vs)
    (h : Held X.K H cls d C fs) : ∃ od : Obj, PySem.W.InstAt s.heap a oe C (some od) ∧ ∀ (f : Str) (v : V), fs.lookup f = some v → ∃ u, PySem.W.lookIn f od = some (some u) ∧ RelV v u := by
  obtain ⟨rfl, ⟨dd, rfl, ed⟩, T⟩ := h
  obtain ⟨hat, _⟩ := I.pin (a, oe) (List.mem_append_left _ List.mem_cons_self)
  obtain ⟨vs, hv⟩ := hf
  obtain ⟨mA, hns, hrel⟩ := (show ObjOk X.prog X.w H s.heap dd (.xd fs) from I.hok dd _ ed)
  obtain ⟨od, hod, look⟩ := lookIn_ns hns
  refine ⟨od, ⟨hat, hz.1, ?_, ?_⟩, fun f v hl => ?_⟩
  · unfold PySem.W.notCls
    rw [hv] <;> rfl
  · rw [hz.2]
    exact hod
  · obtain ⟨u, hu, ru⟩ := RelO.some_of (v := v) (o := mA f) (by rw [← hl]; exact hrel f)
    exact ⟨u, by rw [look, hu], ru⟩
/-- e.f, e the error that the suite holds -/
def tXs (K : PySem.W.Frag) (a : Addr) (cls : Value) (d : Option Addr) (f : Str) (te : TE) : TE := fun σ H Q => te σ H fun x H1 => x = .ref a ∧ ∃ (C : Addr) (fs : List (Str × V)) (v : V), Held K H1 cls d C fs ∧ PySem.W.findIn K (.ref C) f = some none ∧ fs.lookup f = some v ∧ Q v H1
section
variable {X : Cx} {a : Addr} {oe : Obj} {cls : Value} {d : Option Addr} {pn : List (Addr × Obj)} {pos : Pos}
theorem pe_xs {o : Expr} {to : TE} {f : Str} (hz : Zc cls d oe) (hf : ∃ vs, oe.data = .fields vs) (he : PE (X.suite a ((a, oe) :: pn)) o to) (hb : attributeBase o f X.env (eval o X.env) = eval o X.env := by rfl) :
    PE (X.suite a ((a, oe) :: pn)) (.Attribute o f pos) (tXs X.K a cls d f to) := ⟨fun pins s σ H Q I h => by
  refine attr_of hb (thn (he.run pins s σ H _ I h) fun u s1 got => ?_)
  obtain ⟨x, H1, I1, rx, rfl, C, fs, v, hd, hno, hl, q⟩ := got
  obtain rfl : u = Value.ref a := rx
  obtain ⟨od, J, look⟩ := held_at I1 hz hf hd
  obtain ⟨u, hu, ru⟩ := look f v hl
  exact exc_get I1.kIn J hd.v.ga hd.v.gg hd.v.ex (PySem.W.findObj_own hd.v.hd hno rfl hu) (handed_of ru) ⟨v, H1, I1.tok _, ru, q⟩⟩
/-- isinstance(e, c), isinstance(e, (c1, c2, ..)) -/
def rIsS (K : PySem.W.Frag) (a : Addr) (cls : Value) (d : Option Addr) : List V → Hp → VK → Prop := fun xs H Q => ∃ (C : Addr) (fs : List (Str × V)) (c : V) (u : Value) (b : Bool), xs = [.ref a, c] ∧ ClsV c u ∧ Held K H cls d C fs ∧ PySem.W.kitOne K (.ref C) u = some b ∧ Q (.bl b) H
def rIsST (K : PySem.W.Frag) (a : Addr) (cls : Value) (d : Option Addr) : List V → Hp → VK → Prop := fun xs H Q => ∃ (C tp : Addr) (fs : List (Str × V)) (cs : List V) (us : List Value) (b : Bool), xs = [.ref a, .ref tp] ∧ H tp = some (.tup cs) ∧ Paired ClsV cs us ∧ Held K H cls d C fs ∧
  PySem.W.kitAny K (.ref C) us = some b ∧ Q (.bl b) H
theorem call_isS (hz : Zc cls d oe) (hf : ∃ vs, oe.data = .fields vs) : CallR (X.suite a ((a, oe) :: pn)) (.builtin "isinstance") (rIsS X.K a cls d) := by
  intro pins s σ H xs us Q I r h
  obtain ⟨C, fs, c, u, b, rfl, k, hd, e, q⟩ := h
  obtain ⟨u1, u2, rfl, r1, r2⟩ := vals2 r
  obtain rfl : u1 = Value.ref a := r1
  have e2 := k.eq r2
  subst e2
  obtain ⟨od, J, _⟩ := held_at I hz hf hd
  exact PySem.W.kia_one hd.v.kit I.kIn J e (fun z => nomatch z) fun tk => ⟨.bl b, H, I.tok tk, rfl, q⟩
theorem call_isST (hz : Zc cls d oe) (hf : ∃ vs, oe.data = .fields vs) : CallR (X.suite a ((a, oe) :: pn)) (.builtin "isinstance") (rIsST X.K a cls d) := by
  intro pins s σ H xs us Q I r h
  obtain ⟨C, tp, fs, cs, vs, b, rfl, etp, k, hd, e, q⟩ := h
  obtain ⟨u1, u2, rfl, r1, r2⟩ := vals2 r
  obtain rfl : u1 = Value.ref a := r1
  obtain rfl : u2 = Value.ref tp := r2
  obtain ⟨od, J, _⟩ := held_at I hz hf hd
  obtain ⟨_, its, rv, ob, ho, hc, n, hdt⟩ := (show ObjOk X.prog X.w H s.heap tp (.tup cs) from I.hok tp _ etp)
  have ei := ClsV.all k rv
  subst ei
  obtain ⟨oc, od', oda, osl⟩ := ob
  dsimp only at hc hdt
  subst hc hdt
  exact PySem.W.kia_tup hd.v.kit I.kIn J ho e (fun z => nomatch z) fun tk => ⟨.bl b, H, I.tok tk, rfl, q⟩
/-- what a making in a try may let out: the frame's slots keep their number -/
def WL (W : WX) (n : Nat) : XK := fun cls d H => ∀ σ : L2.St, σ.length = n → W cls d σ H
theorem passL {W : WX} {n : Nat} (tk : Takes X W) (e : X.N.length = n) : Passes (L2.CX X.prog X.w) X (WL W n) := fun _ σ _ _ er s' I c => tk er s' (XE.of_call I (fun _ _ _ h => h σ (I.len.trans e)) c)
end
/-! enumerate -/
section
variable {K : PySem.W.Frag} {σ : L2.St} {H : Hp} {D : Ends} {a : Addr} {xs : List V}
theorem rd_forD {ta : TA} {g : TG} {tb : TS} (h : ta σ H fun vs H1 => ∃ b ys, vs = [.ref b] ∧ SqL K H1 b ys ∧ tFor (fun _ H' R => R (Ite K b) H') g tb D σ H1) : tFor (iEnum K ta) g tb D σ H := h
theorem rd_enumL {A : Addr → Prop} (h : SqL K H a xs) (q : A a) : ∃ b ys, [V.ref a] = [.ref b] ∧ SqL K H b ys ∧ A b := ⟨a, xs, rfl, h, q⟩
theorem rd_forE {g : TG} {tb : TS} (Pv : Nat → L2.St → Hp → Prop) (h0 : Pv 0 σ H) (hl : ∀ i σ H, i ≤ xs.length → Pv i σ H → SqL K H a xs)
    (hs : ∀ (i : Nat) x σ H p, xs[i]? = some x → Pv i σ H → H p = none → g (.ref p) σ (upd H p (.tup [.int i, x])) fun σ2 H2 => tb { D with nx := Pv (i + 1), ct := Pv (i + 1), bk := D.nx } σ2 H2)
    (hd : ∀ σ H, Pv xs.length σ H → D.nx σ H) : tFor (fun _ H' R => R (Ite K a) H') g tb D σ H := by
  refine ⟨fun j left σ' H' => left = xs.length - j ∧ j ≤ xs.length ∧ Pv j σ' H', ⟨xs.length, by omega, by omega, h0⟩, fun j left σ' H' st => ?_⟩
  obtain ⟨rfl, hj, pj⟩ := st
  have hq := hl j σ' H' hj pj
  by_cases lt : j < xs.length
  · refine .inr ⟨⟨xs, xs[j], hq, List.getElem?_eq_getElem lt⟩, Pv (j + 1), fun σ2 H2 p2 => ⟨xs.length - (j + 1), by omega, rfl, by omega, p2⟩, fun v H2 y => ?_⟩
    obtain ⟨p, x, rfl, hp, rfl, hx⟩ := y
    exact hs j x σ' H' p (hx xs hq) pj hp
  · obtain rfl : j = xs.length := by omega
    exact .inl ⟨⟨xs, hq, Nat.le_refl _⟩, hd σ' H' pj⟩
end
end Ev

/-! A text as often as 0 or 1. -/
namespace Ev
open PySem PySem.Spec PyProof.Rows L2
def rep01 (i : Str) (k : Bool) : Str := if k = true then i else Str.empty
theorem op_rep01 {X : Cx} : OpR X (binaryOp .Mult) (fun x y H Q => ∃ (i : Str) (k : Bool), x = .str i ∧ y = .int (if k = true then 1 else 0) ∧ Q (.str (rep01 i k)) H) := by
  intro pins s σ H x y v u Q I rx ry h
  obtain ⟨i, k, rfl, rfl, q⟩ := h
  obtain ⟨t, rfl⟩ := rx
  obtain ⟨t', rfl⟩ := ry
  cases k with
  | true => exact P.mul_str (n := 1) (by decide) (fun _ z => absurd z (by simp)) (fun _ z => absurd z (by simp)) (by rw [if_neg (by decide), if_pos (by simp)]; exact ⟨.str i, H, I, ⟨_, rfl⟩, q⟩)
  | false => exact P.mul_str (n := 0) (by decide) (fun z => absurd (by decide) z) (fun z => absurd (by decide) z) (by rw [if_pos (by decide)]; exact ⟨by decide, .str Str.empty, H, I.tok _, ⟨_, rfl⟩, q⟩)
end Ev

/-! How long texts of lists, tuples and whole numbers are. -/
namespace Ev
open PySem PySem.Spec PyProof.Rows L2
theorem len_listText (ts : List Str) : (listText ts).length ≤ piled ts + 2 := by
  cases ts with
  | nil => exact (by decide : (listText []).length ≤ 2)
  | cons t r =>
    have e : listText (t :: r) = textFrom 1 (("[" : Str) ++ t) r ++ ("]" : Str) := rfl
    rw [e, Str.length_append, textFrom_length_pos r 1 _ (by decide), Str.length_append, piled_cons]
    have e1 : ("[" : Str).length = 1 := by decide
    have e2 : ("]" : Str).length = 1 := by decide
    omega
theorem len_tupleText (t u : Str) (r : List Str) : (PySem.tupleText (t :: u :: r)).length ≤ piled (t :: u :: r) := by
  have e : PySem.tupleText (t :: u :: r) = ("(" : Str) ++ Str.join ", " (t :: u :: r) ++ (")" : Str) := by
    unfold PySem.tupleText
    rw [if_neg (by simp)]
  rw [e, Str.length_append, Str.length_append]
  have e1 : ("(" : Str).length = 1 := by decide
  have e2 : (")" : Str).length = 1 := by decide
  have := join_length_add (t :: u :: r) (by simp)
  omega
theorem shown_int {i : Int} (h : i.natAbs < 10 ^ 9) : (PyData.int i).shown.length ≤ 10 := by
  have e : (PyData.int i).shown = Str.ofString (toString i) := by simp only [PyData.shown]
  rw [e, PySem.ofString_length]
  exact int_text_length_le10 (by decide) h
theorem show_int {i : Int} (h : i.natAbs < 10 ^ 9) : (PyData.int i).showable = true := by
  have hb : i.natAbs.log2 < 1920 := by
    have e : (10 : Nat) ^ 9 < 2 ^ 1900 := by decide +kernel
    exact Nat.lt_of_lt_of_le (PySem.Flt.log2_lt_of (by decide) (Nat.lt_trans h e)) (by decide)
  simpa [PyData.showable] using hb

/-- what repr wants of a value, and how long its text is at most -/
structure Sh (d : PyData) (n k : Nat) : Prop where
  s : d.showable = true
  h : d.hasDict = false
  e : d.depth ≤ k
  l : d.shown.length ≤ n
theorem Sh.int {i : Int} (h : i.natAbs < 10 ^ 9) : Sh (.int i) 10 0 := ⟨show_int h, by simp only [PyData.hasDict], by simp [PyData.depth], shown_int h⟩
theorem Sh.str1 (x : Str) (h : (PyData.str x).shown.length ≤ 10) : Sh (.str x) 10 0 := ⟨by simp only [PyData.showable], by simp only [PyData.hasDict], by simp [PyData.depth], h⟩
theorem Sh.mono {d : PyData} {n k m j : Nat} (h : Sh d n k) (a : n ≤ m) (b : k ≤ j) : Sh d m j := ⟨h.s, h.h, Nat.le_trans h.e b, Nat.le_trans h.l a⟩
theorem sh_all {n k : Nat} : ∀ ds : List PyData, (∀ d ∈ ds, Sh d n k) → PyData.showableAll ds = true ∧ PyData.hasDictAll ds = false ∧ PyData.depthAll ds ≤ k ∧ piled (PyData.shownAll ds) ≤ (n + 2) * ds.length
  | [], _ => ⟨by simp only [PyData.showableAll], by simp only [PyData.hasDictAll], by simp [PyData.depthAll], by simp only [PyData.shownAll]; exact Nat.zero_le _⟩
  | d :: ds, h => by
    obtain ⟨a, b, c, e⟩ := sh_all ds fun x hx => h x (List.mem_cons_of_mem _ hx)
    have q := h d List.mem_cons_self
    refine ⟨?_, ?_, ?_, ?_⟩
    · simp only [PyData.showableAll, q.s, a, Bool.and_self]
    · simp only [PyData.hasDictAll, q.h, b, Bool.or_self]
    · simp only [PyData.depthAll]
      have := q.e
      omega
    · simp only [PyData.shownAll]
      rw [piled_cons, List.length_cons, Nat.mul_succ]
      have := q.l
      omega
theorem Sh.list {n k : Nat} {ds : List PyData} (h : ∀ d ∈ ds, Sh d n k) : Sh (.list ds) ((n + 2) * ds.length + 2) (k + 1) := by
  obtain ⟨a, b, c, e⟩ := sh_all ds h
  refine ⟨by simp only [PyData.showable]; exact a, by simp only [PyData.hasDict]; exact b, by simp only [PyData.depth]; omega, ?_⟩
  simp only [PyData.shown]
  exact Nat.le_trans (len_listText _) (by omega)
theorem Sh.tup {n k : Nat} {x y : PyData} {ds : List PyData} (h : ∀ d ∈ x :: y :: ds, Sh d n k) : Sh (.tuple (x :: y :: ds)) ((n + 2) * (ds.length + 2)) (k + 1) := by
  obtain ⟨a, b, c, e⟩ := sh_all (x :: y :: ds) h
  refine ⟨by simp only [PyData.showable]; exact a, by simp only [PyData.hasDict]; exact b, by simp only [PyData.depth]; omega, ?_⟩
  simp only [PyData.shown, PyData.shownAll] at e ⊢
  exact Nat.le_trans (len_tupleText _ _ _) e
end Ev

/-! A method of an own class, called with keywords alone. -/
namespace Ev
open PySem PySem.Spec PyProof.Rows L2
def tMethK (C : Addr) (m : Str) (n : Nat) (sp : Sp) (gV : List V → List V → List V) (E : XK) (ta : TE) (tk : TA) : TE := fun σ H Q => ta σ H fun x H1 => ∃ (a dx : Addr) (fs : List (Str × V)), x = .ref a ∧ H1 a = some (.ins C dx fs) ∧ fs.lookup m = none ∧
  tk σ H1 fun zs H2 => zs.length = n ∧ sp (gV [.ref a] zs) H2 Q E
section
variable {X : Cx} {CX : CXT} {k : Nat} {C f : Addr} {fd : FuncData} {ps ks : List Str} {sp : Sp} {E : XK} {m : Str} {apos pos : Pos} {o : Expr} {kws : List Keyword} {ta : TE} {tk : TA} {g : List Value → List Value → List Value} {gV : List V → List V → List V}
theorem pe_methKw {pl : Sem Bool} (he : PE X o ta) (c : Cls X.K C) (hm : Meth X.K C m f) (G : FnOk X.prog X.w X.K X.mg X.base CX k f fd ps sp) (hr : Room k X.A) (kb : KBn X.K fd ps 1 ks g gV) (hx : Passes CX X E) (hkw : PK X kws tk)
    (ht : eval (.Call (.Attribute o m apos) [] kws pos) X.env = (do let ov ← eval o X.env; standAt apos.atName; let (f, first) ← holding [ov] (getMethod ov m pl); callWith pos f first (backTo pos (starEach [] X.env)) (backToKw pos (keywordEach kws X.env))) := by rfl)
    (hall : (backToKw pos (keywordEach kws X.env)).all (·.1.isSome) = true := by rfl) (hks : (backToKw pos (keywordEach kws X.env)).filterMap (·.1) = ks := by rfl)
    (hpl : ((backTo pos (starEach [] X.env)).any (·.1) || (backToKw pos (keywordEach kws X.env)).any (·.1.isNone)) = false := by rfl) :
    PE X (.Call (.Attribute o m apos) [] kws pos) (tMethK C m ks.length sp gV E ta tk) := ⟨fun pins s σ H Q I h => by
  refine PySem.W.methodCall_KW (pl := pl) (thn (he.run pins s σ H _ I h) fun u s1 got => ?_) ht
  obtain ⟨x, H1, I1, rx, a, dx, fs, rfl, ea, hl, q⟩ := got
  obtain rfl : u = Value.ref a := rx
  refine getmeth_ok I1 ea c hm hl ?_
  refine PySem.W.callWith_KW0 (first := [.ref a]) (h₀ := X.base) I.ok.mod.kin hm.kp hall ?_ hpl
  refine thn (hkw.run pos pins s1 σ H1 _ I1 q) fun ws s2 got2 => ?_
  obtain ⟨zs, H2, I2, rz, lz, hsp⟩ := got2
  refine ⟨I2.kIn, ?_⟩
  rw [hks]
  have r1 : Vals [V.ref a] [Value.ref a] := .cons rfl .nil
  show wpAny _ _ (call (.ref f) [.ref a] (ks.zip ws)) _ _ _
  refine wpAny_call (codeAny_mono (G.run X.A X.stack s2 H2 ⟨[.ref a], ks.zip ws⟩ (g [.ref a] ws) (gV [.ref a] zs) Q E hr I2.env0 (kb.to s2 [.ref a] ws I2.kIn rfl (rz.length.symm.trans lz)) (kb.rel r1 rz) hsp) fun r s' hq => ?_)
  rcases r with er | (_ | _ | _ | w)
  · exact hx pins σ H2 s2 er s' I2 hq
  · exact False.elim hq
  · exact False.elim hq
  · exact False.elim hq
  · exact I2.after hq⟩
end
end Ev

/-! A def called with keywords alone; defs that may raise, called where nothing is caught, and within a try. -/
namespace Ev
open PySem PySem.Spec PyProof.Rows L2
section
variable {X : Cx} {CX : CXT} {k : Nat} {f : Addr} {fd : FuncData} {ps ks : List Str} {sp : Sp} {E : XK} {x : Str} {p pos : Pos} {kws : List Keyword} {tk : TA} {g : List Value → List Value → List Value} {gV : List V → List V → List V}
def tCallK0 (m : Nat) (sp : Sp) (gV : List V → List V → List V) (E : XK) (tk : TA) : TE := fun σ H Q => tk σ H fun zs H2 => zs.length = m ∧ sp (gV [] zs) H2 Q E
theorem pe_callK0 (F : FnOk X.prog X.w X.K X.mg X.base CX k f fd ps sp) (hr : Room k X.A) (hg : Gl X x) (hm : X.mg x = some (.ref f)) (hk : PySem.W.keepIn X.K (.ref f) = true) (hb : KBn X.K fd ps 0 ks g gV) (hx : Passes CX X E) (hkw : PK X kws tk)
    (hall : (backToKw pos (keywordEach kws X.env)).all (·.1.isSome) = true := by rfl) (hks : (backToKw pos (keywordEach kws X.env)).filterMap (·.1) = ks := by rfl) (hdb : (x == ("__debug__" : Str)) = false := by decide)
    (hpl : ((backTo pos (starEach [] X.env)).any (·.1) || (backToKw pos (keywordEach kws X.env)).any (·.1.isNone)) = false := by rfl) :
    PE X (.Call (.Name x p) [] kws pos) (tCallK0 ks.length sp gV E tk) := by
  refine ⟨fun pins s σ H Q I h => ?_⟩
  refine wpAny_Call_Name_kw (ld_glob I hg hm ?_ hdb)
  refine PySem.W.callWith_KW0 (h₀ := X.base) I.ok.mod.kin hk hall ?_ hpl
  refine thn (hkw.run pos pins s σ H _ I h) fun ws s2 ⟨zs, H2, I2, rz, l2, q2⟩ => ⟨I2.kIn, ?_⟩
  rw [hks]
  exact run_fnN (us := []) (vs := []) F hr hb hx I2 .nil rz rfl l2 q2
/-- an own def of the module that may raise, as a constant -/
structure CalX (P : Program) (w : World) (K : PySem.W.Frag) (mg : Str → Option Value) (base : Heap) (k : Nat) (x : Str) (f : Addr) (fd : FuncData) (ps : List Str) (sp : Sp) : Prop where
  F : FnOk P w K mg base (L2.CX P w) k f fd ps sp
  m : mg x = some (.ref f)
  kp : PySem.W.keepIn K (.ref f) = true
  b : Binds K fd ps []
theorem pe_cX {j : Nat} {e : Expr} {es : List Expr} {t : TA} (c : CalX X.prog X.w X.K X.mg X.base k x f fd ps sp) (hr : Room j X.A) (hk : k ≤ j) (hx : Passes (L2.CX X.prog X.w) X E) (hg : Gl X x) (ha : PA X (e :: es) t)
    (hdb : (x == ("__debug__" : Str)) = false := by decide) (he : starEach (e :: es) X.env = (false, eval e X.env) :: starEach es X.env := by rfl) (hpl : (backTo pos (starEach es X.env)).any (·.1) = false := by rfl) :
    PE X (.Call (.Name x p) (e :: es) [] pos) (tCall sp [] E t) := pe_call c.F (hr.mono hk) hg c.m c.kp c.b .nil hx ha hdb he hpl
theorem pe_cXK {j : Nat} (c : CalX X.prog X.w X.K X.mg X.base k x f fd ps sp) (hr : Room j X.A) (hk : k ≤ j) (hx : Passes (L2.CX X.prog X.w) X E) (hg : Gl X x) (hb : KBn X.K fd ps 0 ks g gV) (hkw : PK X kws tk)
    (hall : (backToKw pos (keywordEach kws X.env)).all (·.1.isSome) = true := by rfl) (hks : (backToKw pos (keywordEach kws X.env)).filterMap (·.1) = ks := by rfl) (hdb : (x == ("__debug__" : Str)) = false := by decide)
    (hpl : ((backTo pos (starEach [] X.env)).any (·.1) || (backToKw pos (keywordEach kws X.env)).any (·.1.isNone)) = false := by rfl) :
    PE X (.Call (.Name x p) [] kws pos) (tCallK0 ks.length sp gV E tk) := pe_callK0 c.F (hr.mono hk) hg c.m c.kp hb hx hkw hall hks hdb hpl
end
section
variable {σ : L2.St} {H : Hp}
theorem rd_callK0 {m : Nat} {sp : Sp} {gV : List V → List V → List V} {E : XK} {tk : TA} {Q : VK} (h : tk σ H fun zs H2 => zs.length = m ∧ sp (gV [] zs) H2 Q E) : tCallK0 m sp gV E tk σ H Q := h
theorem rd_notN {x : V} {Q : V → Prop} (q : Q (.bl (!decide (x = .non)))) : V.non = .non ∧ Q (.bl (!decide (x = .non))) := ⟨rfl, q⟩
end
end Ev

set_option maxHeartbeats 2000000
/-! A caught error handed to a def of one's own, within the suite that holds it: the def reads and asks it. -/
namespace Ev
open PySem PySem.Spec PyProof.Rows L2 PySem.HandSPX L2H
/-- a def that may be called in a suite, with the error that the suite holds -/
structure FnP (P : Program) (w : World) (K : PySem.W.Frag) (mg : Str → Option Value) (base : Heap) (k : Nat) (f : Addr) (fd : FuncData) (ps : List Str) (sp : Addr → Value → Option Addr → Sp) : Prop where
  len : ∀ a c d vs H Q E, sp a c d vs H Q E → vs.length = ps.length
  run : ∀ (A : Around) (outer : List Env) (s : PySem.Shared) (H : Hp) (args : Args) (us : List Value) (vs : List V) (Q : VK) (E : XK) (p : Addr × Obj) (c : Value) (d : Option Addr), RoomH k A → PinOk outer H s p → Zc c d p.2 → (∃ vs, p.2.data = .fields vs) → Env0 P w K mg base A outer s H → BindsTo s fd args (ps.zip us) → Vals vs us → sp p.1 c d vs H Q E →
    codeAny (model P w) A (.call (.ref f) args) (CR CX0 outer P w H s Q E) s
theorem fnP_of {P : Program} {w : World} {K : PySem.W.Frag} {mg : Str → Option Value} {base : Heap} {x qual : Str} {st : Stmt} {f : Addr} {fd : FuncData} {N ps : List Str} {k : Nat} {sp : Addr → Value → Option Addr → Sp} (F : Fun K x qual st f fd) (S : FnScope N ps (defScope st))
    (len : ∀ a c d vs H Q E, sp a c d vs H Q E → vs.length = ps.length)
    (hbody : ∀ (cdv : Value) (A : Around) (outer : List Env) (s : PySem.Shared) (H : Hp) (vs : List V) (Q : VK) (E : XK) (p : Addr × Obj) (c : Value) (d : Option Addr), RoomH k (A.deeper (envOfC qual (defScope st) s.heap.objs.size f cdv)) → Zc c d p.2 → (∃ vs, p.2.data = .fields vs) → sp p.1 c d vs H Q E →
      ∃ t, PSs (cxH CX0 P w K mg base N qual (defScope st) f cdv A outer s H E p) (defBody st) t ∧ t { nx := fun _ H' => Q .non H', rt := Q } (L2.start N vs) H) :
    FnP P w K mg base (k + 1) f fd ps sp := by
  obtain ⟨oc, od, kV, doc, pm, an, cdv, ct, osl, rfl, lk, hcd⟩ := F.ex
  refine ⟨len, fun A outer s H args us vs Q E p c d hr hpin hz hf e0 hb r hsp => ?_⟩
  have hl := len _ _ _ _ _ _ _ hsp
  have KX : K.In s.heap := e0.mod.kin.keeps fun b o e => (e0.bs b o e).1
  have lim : s.heap.NoLimit := e0.mod.nolimit.keeps fun b o e => (e0.bs b o e).1
  have hkind : ∀ y ∈ ps.zip us, (defScope st).names.lookup y.1 = some .local ∨ ((defScope st).names.lookup y.1 = some .cell ∧ ((cellsFrom (s.heap.objs.size + 1) (defScope st).names []).lookup y.1).isSome = true) := fun ⟨n, v⟩ hy => by
    rcases S.par n (List.of_mem_zip hy).1 with q | q
    · exact .inl q
    · exact .inr ⟨q, PySem.W.cellsFrom_some _ _ _ (.inl q)⟩
  refine codeAny_call_function hr.depth (KX _ _ lk) rfl S.co S.gen rfl (PySem.W.codeRec_of KX hcd) (hb _ _ _ _ ?_)
  refine wpAny_newFunctionEnv_cells S.kind hkind fun env he s1 x => ?_
  subst he
  refine ⟨lim.keeps x.toInCall.keep, codeAny_func ?_⟩
  obtain ⟨t, ht, hq⟩ := hbody cdv A outer s H vs Q E p c d (hr.deeper _) hz hf hsp
  have I : Inv (cxH CX0 P w K mg base N qual (defScope st) f cdv A outer s H E p) [] (L2.start N vs) H s1 := inv_startH S hpin e0 hl r x
  refine wpAny_mono (ht.run [] s1 (L2.start N vs) H _ I hq) (fun fl s' hs => ?_) fun e s' hs => hs
  have fin : ∀ {σ' : L2.St} {H' : Hp} {v : V} {u : Value}, Inv (cxH CX0 P w K mg base N qual (defScope st) f cdv A outer s H E p) [] σ' H' s' → RelV v u → Q v H' → CE outer P w H s Q u s' :=
    fun {σ' H' v u} J rv q => ⟨v, H', J.os, J.bare, J.base, J.hok, rv, q⟩
  cases fl with
  | ret u =>
    obtain ⟨v, σ', H', J, rv, q⟩ := hs
    exact fin J rv q
  | next =>
    obtain ⟨σ', H', J, q⟩ := hs
    exact fin (v := V.non) (u := Value.none) J rfl q
  | brk =>
    obtain ⟨_, _, _, q⟩ := hs
    exact False.elim q
  | cont =>
    obtain ⟨_, _, _, q⟩ := hs
    exact False.elim q
section
variable {X : Cx} {k : Nat} {f : Addr} {fd : FuncData} {ps : List Str} {sp : Addr → Value → Option Addr → Sp} {x : Str} {q pos : Pos} {e : Expr} {es : List Expr} {t : TA} {a : Addr} {oe : Obj} {cls : Value} {d : Option Addr}
theorem pe_callP (hp : (a, oe) ∈ X.pn) (hz : Zc cls d oe) (hf : ∃ vs, oe.data = .fields vs) (F : FnP X.prog X.w X.K X.mg X.base k f fd ps sp) (hr : RoomH k X.A) (hg : Gl X x) (hm : X.mg x = some (.ref f)) (hk : PySem.W.keepIn X.K (.ref f) = true) (hb : Binds X.K fd ps [])
    (ha : PA X (e :: es) t) (hdb : (x == ("__debug__" : Str)) = false := by decide) (he : starEach (e :: es) X.env = (false, eval e X.env) :: starEach es X.env := by rfl) (hpl : (backTo pos (starEach es X.env)).any (·.1) = false := by rfl) :
    PE X (.Call (.Name x q) (e :: es) [] pos) (tCall (sp a cls d) [] E0 t) := by
  refine ⟨fun pins s σ H Q I h => ?_⟩
  refine wpAny_Call_Name_kw (ld_glob I hg hm ?_ hdb)
  refine PySem.W.callWith_K (h₀ := X.base) I.ok.mod.kin hk (thn (ha.run pos pins s σ H _ I h) fun us s1 ⟨vs, H1, I1, r, q⟩ => ⟨I1.kIn, ?_⟩) he hpl
  have q : sp a cls d (vs ++ []) H1 Q E0 := q
  rw [List.append_nil] at q
  have hl : us.length = ps.length := by rw [← r.length]; exact F.len _ _ _ _ _ _ _ q
  have b := hb s1 us I1.kIn (by rw [List.append_nil]; exact hl)
  rw [List.append_nil] at b
  have P1 := I1.pin (a, oe) (List.mem_append_left _ hp)
  have hpin : PinOk X.stack H1 s1 (a, oe) := ⟨P1.1, P1.2.1, fun hm => (List.mem_cons.mp (I1.stkSub a hm)).elim P1.2.2.1 P1.2.2.2.1, P1.2.2.2.2⟩
  refine wpAny_call (codeAny_mono (F.run X.A X.stack s1 H1 ⟨us, []⟩ us vs Q E0 (a, oe) cls d hr hpin hz hf I1.env0 b r q) fun r s' hq => ?_)
  cases r with
  | error e => exact pass0 (X := X) pins σ H1 s1 e s' I1 hq
  | ok fl =>
    cases fl with
    | ret u => exact I1.after hq
    | next => exact False.elim hq
    | brk => exact False.elim hq
    | cont => exact False.elim hq
/-! what the def asks of the error -/
theorem held_pin {pins : List (Addr × Obj)} {σ : L2.St} {H : Hp} {s : PySem.Shared} {C : Addr} {fs : List (Str × V)} (hp : (a, oe) ∈ X.pn) (I : Inv X pins σ H s) (hz : Zc cls d oe) (hf : ∃ vs, oe.data = .fields vs)
    (h : Held X.K H cls d C fs) : ∃ od : Obj, PySem.W.InstAt s.heap a oe C (some od) ∧ ∀ (f : Str) (v : V), fs.lookup f = some v → ∃ u, PySem.W.lookIn f od = some (some u) ∧ RelV v u := by
  obtain ⟨rfl, ⟨dd, rfl, ed⟩, T⟩ := h
  obtain ⟨hat, _⟩ := I.pin (a, oe) (List.mem_append_left _ hp)
  obtain ⟨vs, hv⟩ := hf
  obtain ⟨mA, hns, hrel⟩ := (show ObjOk X.prog X.w H s.heap dd (.xd fs) from I.hok dd _ ed)
  obtain ⟨od, hod, look⟩ := lookIn_ns hns
  refine ⟨od, ⟨hat, hz.1, ?_, ?_⟩, fun f v hl => ?_⟩
  · unfold PySem.W.notCls
    rw [hv] <;> rfl
  · rw [hz.2]
    exact hod
  · obtain ⟨u, hu, ru⟩ := RelO.some_of (v := v) (o := mA f) (by rw [← hl]; exact hrel f)
    exact ⟨u, by rw [look, hu], ru⟩
theorem pe_xp {o : Expr} {to : TE} {f : Str} (hp : (a, oe) ∈ X.pn) (hz : Zc cls d oe) (hf : ∃ vs, oe.data = .fields vs) (he : PE X o to) (hb : attributeBase o f X.env (eval o X.env) = eval o X.env := by rfl) :
    PE X (.Attribute o f pos) (tXs X.K a cls d f to) := ⟨fun pins s σ H Q I h => by
  refine attr_of hb (thn (he.run pins s σ H _ I h) fun u s1 got => ?_)
  obtain ⟨x, H1, I1, rx, rfl, C, fs, v, hd, hno, hl, q⟩ := got
  obtain rfl : u = Value.ref a := rx
  obtain ⟨od, J, look⟩ := held_pin hp I1 hz hf hd
  obtain ⟨u, hu, ru⟩ := look f v hl
  exact exc_get I1.kIn J hd.v.ga hd.v.gg hd.v.ex (PySem.W.findObj_own hd.v.hd hno rfl hu) (handed_of ru) ⟨v, H1, I1.tok _, ru, q⟩⟩
theorem call_isP (hp : (a, oe) ∈ X.pn) (hz : Zc cls d oe) (hf : ∃ vs, oe.data = .fields vs) : CallR X (.builtin "isinstance") (rIsS X.K a cls d) := by
  intro pins s σ H xs us Q I r h
  obtain ⟨C, fs, c, u, b, rfl, k, hd, e, q⟩ := h
  obtain ⟨u1, u2, rfl, r1, r2⟩ := vals2 r
  obtain rfl : u1 = Value.ref a := r1
  have e2 := k.eq r2
  subst e2
  obtain ⟨od, J, _⟩ := held_pin hp I hz hf hd
  exact PySem.W.kia_one hd.v.kit I.kIn J e (fun z => nomatch z) fun tk => ⟨.bl b, H, I.tok tk, rfl, q⟩
theorem call_isPT (hp : (a, oe) ∈ X.pn) (hz : Zc cls d oe) (hf : ∃ vs, oe.data = .fields vs) : CallR X (.builtin "isinstance") (rIsST X.K a cls d) := by
  intro pins s σ H xs us Q I r h
  obtain ⟨C, tp, fs, cs, vs, b, rfl, etp, k, hd, e, q⟩ := h
  obtain ⟨u1, u2, rfl, r1, r2⟩ := vals2 r
  obtain rfl : u1 = Value.ref a := r1
  obtain rfl : u2 = Value.ref tp := r2
  obtain ⟨od, J, _⟩ := held_pin hp I hz hf hd
  obtain ⟨_, its, rv, ob, ho, hc, n, hdt⟩ := (show ObjOk X.prog X.w H s.heap tp (.tup cs) from I.hok tp _ etp)
  have ei := ClsV.all k rv
  subst ei
  obtain ⟨oc, od', oda, osl⟩ := ob
  dsimp only at hc hdt
  subst hc hdt
  exact PySem.W.kia_tup hd.v.kit I.kIn J ho e (fun z => nomatch z) fun tk => ⟨.bl b, H, I.tok tk, rfl, q⟩
end
end Ev

/-! Bounds, their strictest shares, conflicts. -/
namespace Ev
abbrev R3 := Int × Int × Int
def lowStep (b : Int × Int) (r : R3) : Int × Int := if r.2.2 * b.2 < b.1 * r.1 then (r.2.2, r.1) else b
def highStep (b : Int × Int) (r : R3) : Int × Int := if r.2.1 * b.2 > b.1 * r.1 then (r.2.1, r.1) else b
def Wide1 (B : List R3) : Prop := ∀ r ∈ B, 1 ≤ r.1
theorem mul_chain {a b c d e f : Int} (hb : 0 < b) (hd : 0 ≤ d) (hf : 0 ≤ f) (h1 : a * b ≤ c * d) (h2 : c * f ≤ e * b) : a * f ≤ e * d := by
  have x1 := Int.mul_le_mul_of_nonneg_right h1 hf
  have x2 := Int.mul_le_mul_of_nonneg_right h2 hd
  have e1 : a * f * b ≤ e * d * b := by
    have q1 : a * f * b = a * b * f := by rw [Int.mul_assoc, Int.mul_comm f b, ← Int.mul_assoc]
    have q2 : e * d * b = e * b * d := by rw [Int.mul_assoc, Int.mul_comm d b, ← Int.mul_assoc]
    have q3 : c * d * f = c * f * d := by rw [Int.mul_assoc, Int.mul_comm d f, ← Int.mul_assoc]
    omega
  exact Int.le_of_mul_le_mul_right e1 hb
/-- (m, w) is the most and the width of one of these, and none is stricter -/
def IsLow (B : List R3) (b : Int × Int) : Prop := (∃ s ∈ B, b = (s.2.2, s.1)) ∧ ∀ s ∈ B, b.1 * s.1 ≤ s.2.2 * b.2
def IsHigh (B : List R3) (b : Int × Int) : Prop := (∃ s ∈ B, b = (s.2.1, s.1)) ∧ ∀ s ∈ B, s.2.1 * b.2 ≤ b.1 * s.1
theorem low_fold (A : List R3) : ∀ (done : List R3) (b : Int × Int), Wide1 (done ++ A) → IsLow done b → IsLow (done ++ A) (A.foldl lowStep b) := by
  induction A with
  | nil => intro done b _ h; rw [List.append_nil]; exact h
  | cons r A ih =>
    intro done b hw h
    have e : done ++ r :: A = (done ++ [r]) ++ A := by simp
    rw [List.foldl_cons, e]
    refine ih _ _ (by rw [← e]; exact hw) ?_
    obtain ⟨⟨s, hs, hb⟩, hall⟩ := h
    have rw1 : 1 ≤ r.1 := hw r (by simp)
    have sw1 : 1 ≤ s.1 := hw s (by simp [hs])
    unfold lowStep
    by_cases c : r.2.2 * b.2 < b.1 * r.1
    · rw [if_pos c]
      refine ⟨⟨r, by simp, rfl⟩, fun t ht => ?_⟩
      rcases List.mem_append.mp ht with ht | ht
      · have tw := hw t (by simp [ht])
        have := hall t ht
        have hb2 : 0 < b.2 := by rw [hb]; show 0 < s.1; omega
        exact mul_chain hb2 (by show (0 : Int) ≤ r.1; omega) (by omega) (Int.le_of_lt c) this
      · rw [List.mem_singleton.mp ht]; exact Int.le_refl _
    · rw [if_neg c]
      refine ⟨⟨s, by simp [hs], hb⟩, fun t ht => ?_⟩
      rcases List.mem_append.mp ht with ht | ht
      · exact hall t ht
      · rw [List.mem_singleton.mp ht]; omega
theorem high_fold (A : List R3) : ∀ (done : List R3) (b : Int × Int), Wide1 (done ++ A) → IsHigh done b → IsHigh (done ++ A) (A.foldl highStep b) := by
  induction A with
  | nil => intro done b _ h; rw [List.append_nil]; exact h
  | cons r A ih =>
    intro done b hw h
    have e : done ++ r :: A = (done ++ [r]) ++ A := by simp
    rw [List.foldl_cons, e]
    refine ih _ _ (by rw [← e]; exact hw) ?_
    obtain ⟨⟨s, hs, hb⟩, hall⟩ := h
    have rw1 : 1 ≤ r.1 := hw r (by simp)
    have sw1 : 1 ≤ s.1 := hw s (by simp [hs])
    unfold highStep
    by_cases c : r.2.1 * b.2 > b.1 * r.1
    · rw [if_pos c]
      refine ⟨⟨r, by simp, rfl⟩, fun t ht => ?_⟩
      rcases List.mem_append.mp ht with ht | ht
      · have tw := hw t (by simp [ht])
        have := hall t ht
        have hb2 : 0 < b.2 := by rw [hb]; show 0 < s.1; omega
        exact mul_chain hb2 (by omega) (by show (0 : Int) ≤ r.1; omega) this (Int.le_of_lt c)
      · rw [List.mem_singleton.mp ht]; exact Int.le_refl _
    · rw [if_neg c]
      refine ⟨⟨s, by simp [hs], hb⟩, fun t ht => ?_⟩
      rcases List.mem_append.mp ht with ht | ht
      · exact hall t ht
      · rw [List.mem_singleton.mp ht]; omega
/-- what lowest_most, highest_least hand out of bounds that begin with r -/
def lowM (r : R3) (B : List R3) : Int × Int := (r :: B).foldl lowStep (r.2.2, r.1)
def highM (r : R3) (B : List R3) : Int × Int := (r :: B).foldl highStep (r.2.1, r.1)
theorem lowM_eq (r : R3) (B : List R3) : lowM r B = B.foldl lowStep (r.2.2, r.1) := by
  unfold lowM
  rw [List.foldl_cons]
  unfold lowStep
  rw [if_neg (by exact Int.lt_irrefl _)]
theorem highM_eq (r : R3) (B : List R3) : highM r B = B.foldl highStep (r.2.1, r.1) := by
  unfold highM
  rw [List.foldl_cons]
  unfold highStep
  rw [if_neg (by exact Int.lt_irrefl _)]
theorem low_is (r : R3) (B : List R3) (hw : Wide1 (r :: B)) : IsLow (r :: B) (lowM r B) := by
  rw [lowM_eq]
  exact low_fold B [r] _ hw ⟨⟨r, by simp, rfl⟩, fun s hs => by rw [List.mem_singleton.mp hs]; exact Int.le_refl _⟩
theorem high_is (r : R3) (B : List R3) (hw : Wide1 (r :: B)) : IsHigh (r :: B) (highM r B) := by
  rw [highM_eq]
  exact high_fold B [r] _ hw ⟨⟨r, by simp, rfl⟩, fun s hs => by rw [List.mem_singleton.mp hs]; exact Int.le_refl _⟩
/-! conflicts -/
def NoConf (B : List R3) : Prop := ∀ r ∈ B, ∀ s ∈ B, r.2.1 * s.1 ≤ s.2.2 * r.1
def FirstConf (B : List R3) (i j : Nat) : Prop := ∃ r s, B[i]? = some r ∧ B[j]? = some s ∧ s.2.2 * r.1 < r.2.1 * s.1 ∧ (∀ (i' : Nat) r', i' < i → B[i']? = some r' → ∀ s' ∈ B, r'.2.1 * s'.1 ≤ s'.2.2 * r'.1) ∧
  ∀ (j' : Nat) s', j' < j → B[j']? = some s' → r.2.1 * s'.1 ≤ s'.2.2 * r.1
theorem FirstConf.eq {B : List R3} {i j i' j' : Nat} (h : FirstConf B i j) (g : FirstConf B i' j') : i = i' ∧ j = j' := by
  obtain ⟨r, s, h1, h2, h3, h4, h5⟩ := h
  obtain ⟨r', s', g1, g2, g3, g4, g5⟩ := g
  have ei : i = i' := by
    rcases Nat.lt_trichotomy i i' with z | z | z
    · have := g4 i r z h1 s (List.mem_of_getElem? h2); omega
    · exact z
    · have := h4 i' r' z g1 s' (List.mem_of_getElem? g2); omega
  subst ei
  rw [h1] at g1; cases g1
  refine ⟨rfl, ?_⟩
  rcases Nat.lt_trichotomy j j' with z | z | z
  · have := g5 j s z h2; omega
  · exact z
  · have := h5 j' s' z g2; omega
theorem FirstConf.not {B : List R3} {i j : Nat} (h : FirstConf B i j) : ¬ NoConf B := fun n => by
  obtain ⟨r, s, h1, h2, h3, _⟩ := h
  have := n r (List.mem_of_getElem? h1) s (List.mem_of_getElem? h2)
  omega
/-- a least that passes the strictest most passes all -/
theorem low_pass {B : List R3} {b : Int × Int} (hw : Wide1 B) (h : IsLow B b) {r : R3} (hr : 1 ≤ r.1) (c : r.2.1 * b.2 ≤ b.1 * r.1) : ∀ s ∈ B, r.2.1 * s.1 ≤ s.2.2 * r.1 := fun s hs => by
  obtain ⟨⟨t, ht, hb⟩, hall⟩ := h
  have tw := hw t ht
  have sw := hw s hs
  have hb2 : 0 < b.2 := by rw [hb]; show 0 < t.1; omega
  exact mul_chain hb2 (by omega) (by omega) c (hall s hs)
theorem low_stop {B : List R3} {b : Int × Int} (h : IsLow B b) {r : R3} (c : b.1 * r.1 < r.2.1 * b.2) : ∃ s ∈ B, s.2.2 * r.1 < r.2.1 * s.1 := by
  obtain ⟨⟨t, ht, hb⟩, hall⟩ := h
  refine ⟨t, ht, ?_⟩
  rw [hb] at c
  exact c
end Ev

/-! The strictest further rules. -/
namespace Ev
theorem high_pass {B : List R3} {b : Int × Int} (hw : Wide1 B) (h : IsHigh B b) {s : R3} (hs : 1 ≤ s.1) (c : b.1 * s.1 ≤ s.2.2 * b.2) : ∀ r ∈ B, r.2.1 * s.1 ≤ s.2.2 * r.1 := fun r hr => by
  obtain ⟨⟨t, ht, hb⟩, hall⟩ := h
  have tw := hw t ht
  have rw' := hw r hr
  have hb2 : 0 < b.2 := by rw [hb]; show 0 < t.1; omega
  exact mul_chain hb2 (by omega) (by omega) (hall r hr) c
theorem high_stop {B : List R3} {b : Int × Int} (h : IsHigh B b) {s : R3} (c : s.2.2 * b.2 < b.1 * s.1) : ∃ r ∈ B, s.2.2 * r.1 < r.2.1 * s.1 := by
  obtain ⟨⟨t, ht, hb⟩, hall⟩ := h
  refine ⟨t, ht, ?_⟩
  rw [hb] at c
  exact c
theorem noconf_add {B : List R3} {o : R3} (nc : NoConf B) (h1 : ∀ s ∈ B, o.2.1 * s.1 ≤ s.2.2 * o.1) (h2 : ∀ r ∈ B, r.2.1 * o.1 ≤ o.2.2 * r.1) (h3 : o.2.1 * o.1 ≤ o.2.2 * o.1) : NoConf (B ++ [o]) := fun r hr s hs => by
  rcases List.mem_append.mp hr with hr | hr <;> rcases List.mem_append.mp hs with hs | hs
  · exact nc r hr s hs
  · rw [List.mem_singleton.mp hs]; exact h2 r hr
  · rw [List.mem_singleton.mp hr]; exact h1 s hs
  · rw [List.mem_singleton.mp hr, List.mem_singleton.mp hs]; exact h3
theorem noconf_of_share {B : List R3} {o u : Int} (hu : 0 < u) (hw : Wide1 B) (h : ∀ r ∈ B, r.2.1 * u ≤ r.1 * o ∧ r.1 * o ≤ r.2.2 * u) : NoConf B := fun r hr s hs => by
  have a := (h r hr).1
  have b := (h s hs).2
  rw [Int.mul_comm] at b
  rw [Int.mul_comm r.1] at a
  exact mul_chain hu (by have := hw r hr; omega) (by have := hw s hs; omega) a b
structure Strict (lo hi n : Int) (rs : List R3) (d0 d1 : Int) : Prop where
  a1 : NoConf ((1, lo, hi) :: rs ++ [(n, d0, n * hi)])
  a2 : ∀ x, ¬ NoConf ((1, lo, hi) :: rs ++ [(n, d0 + 1, x)])
  a3 : NoConf ((1, lo, hi) :: rs ++ [(n, n * lo, d1)])
  a4 : ∀ x, ¬ NoConf ((1, lo, hi) :: rs ++ [(n, x, d1 - 1)])
  b1 : n * lo ≤ d0
  b2 : d0 ≤ n * hi
  b3 : n * lo ≤ d1
  b4 : d1 ≤ n * hi
theorem strict_is {lo hi n : Int} {rs : List R3} (hw : Wide1 ((1, lo, hi) :: rs)) (nc : NoConf ((1, lo, hi) :: rs)) (hn : 1 ≤ n) :
    Strict lo hi n rs (n * (lowM (1, lo, hi) rs).1 / (lowM (1, lo, hi) rs).2) (0 - (0 - n * (highM (1, lo, hi) rs).1) / (highM (1, lo, hi) rs).2) := by
  have isl := low_is (1, lo, hi) rs hw
  have ish := high_is (1, lo, hi) rs hw
  have p1 : 0 < (lowM (1, lo, hi) rs).2 := by
    obtain ⟨⟨z, hz, e⟩, _⟩ := isl
    rw [e]; have := hw z hz; show 0 < z.1; omega
  have p2 : 0 < (highM (1, lo, hi) rs).2 := by
    obtain ⟨⟨z, hz, e⟩, _⟩ := ish
    rw [e]; have := hw z hz; show 0 < z.1; omega
  generalize lowM (1, lo, hi) rs = lm at isl p1 ⊢
  generalize highM (1, lo, hi) rs = hm at ish p2 ⊢
  obtain ⟨m, w⟩ := lm
  obtain ⟨l, v⟩ := hm
  dsimp only at p1 p2 ⊢
  have f1 : n * m / w * w ≤ n * m := Int.ediv_mul_le _ (by omega)
  have f2 : n * m < (n * m / w + 1) * w := Int.lt_ediv_add_one_mul_self _ p1
  have g1 : (0 - n * l) / v * v ≤ 0 - n * l := Int.ediv_mul_le _ (by omega)
  have g2 : 0 - n * l < ((0 - n * l) / v + 1) * v := Int.lt_ediv_add_one_mul_self _ p2
  generalize n * m / w = d0 at f1 f2 ⊢
  generalize hd : (0 - n * l) / v = q at g1 g2 ⊢
  have e0 : (1, lo, hi) ∈ (1, lo, hi) :: rs := List.mem_cons_self
  -- the new least d0 passes all mosts
  have c1 : ∀ s ∈ (1, lo, hi) :: rs, d0 * s.1 ≤ s.2.2 * n := low_pass hw isl (r := (n, d0, n * hi)) hn (by show d0 * w ≤ m * n; rw [Int.mul_comm m n]; exact f1)
  have c2 : ∃ s ∈ (1, lo, hi) :: rs, s.2.2 * n < (d0 + 1) * s.1 := low_stop isl (r := (n, d0 + 1, 0)) (by show m * n < (d0 + 1) * w; rw [Int.mul_comm m n]; exact f2)
  have h1 : l * n ≤ (0 - q) * v := by rw [Int.sub_mul, Int.mul_comm l n]; omega
  have h2 : (0 - q - 1) * v < l * n := by
    rw [Int.add_mul] at g2
    rw [Int.sub_mul, Int.sub_mul, Int.mul_comm l n]; omega
  have c3 : ∀ r ∈ (1, lo, hi) :: rs, r.2.1 * n ≤ (0 - q) * r.1 := high_pass hw ish (s := (n, n * lo, 0 - q)) hn h1
  have c4 : ∃ r ∈ (1, lo, hi) :: rs, (0 - q - 1) * r.1 < r.2.1 * n := high_stop ish (s := (n, 0, 0 - q - 1)) h2
  have x1 := c1 _ e0
  have x3 := c3 _ e0
  dsimp only at x1 x3
  have lohi : lo ≤ hi := by have := nc _ e0 _ e0; dsimp only at this; omega
  have up : ∀ r ∈ (1, lo, hi) :: rs, r.2.1 * n ≤ n * hi * r.1 := fun r hr => by
    have := nc r hr _ e0
    dsimp only at this
    have := Int.mul_le_mul_of_nonneg_left this (show 0 ≤ n by omega)
    rw [Int.mul_one] at this
    rw [Int.mul_comm r.2.1 n, Int.mul_assoc]; exact this
  have dn : ∀ s ∈ (1, lo, hi) :: rs, n * lo * s.1 ≤ s.2.2 * n := fun s hs => by
    have := nc _ e0 s hs
    dsimp only at this
    have := Int.mul_le_mul_of_nonneg_left this (show 0 ≤ n by omega)
    rw [Int.mul_one] at this
    rw [Int.mul_comm s.2.2 n, Int.mul_assoc]; exact this
  have nlh : n * lo ≤ n * hi := Int.mul_le_mul_of_nonneg_left lohi (by omega)
  have y1 : n * lo ≤ d0 := by
    obtain ⟨s, hs, z⟩ := c2
    have sw := hw s hs
    have := dn s hs
    have : n * lo * s.1 < (d0 + 1) * s.1 := Int.lt_of_le_of_lt this z
    have := Int.lt_of_mul_lt_mul_right this (by omega)
    omega
  have y2 : d0 ≤ n * hi := by rw [Int.mul_comm n hi]; omega
  have y3 : n * lo ≤ 0 - q := by rw [Int.mul_comm n lo]; omega
  have y4 : 0 - q ≤ n * hi := by
    obtain ⟨r, hr, z⟩ := c4
    have rw' := hw r hr
    have := up r hr
    have : (0 - q - 1) * r.1 < n * hi * r.1 := Int.lt_of_lt_of_le z this
    have := Int.lt_of_mul_lt_mul_right this (by omega)
    omega
  refine ⟨noconf_add nc c1 up (Int.mul_le_mul_of_nonneg_right y2 (by show 0 ≤ n; omega)), fun x k => ?_, noconf_add nc dn c3 (Int.mul_le_mul_of_nonneg_right y3 (by show 0 ≤ n; omega)), fun x k => ?_, y1, y2, y3, y4⟩
  · obtain ⟨s, hs, z⟩ := c2
    have := k (n, d0 + 1, x) (by simp) s (List.mem_append_left _ hs)
    dsimp only at this
    omega
  · obtain ⟨r, hr, z⟩ := c4
    have := k r (List.mem_append_left _ hr) (n, x, 0 - q - 1) (by simp)
    dsimp only at this
    omega
end Ev

namespace Ev
open PySem PySem.Spec PyProof.Rows L2
local macro_rules | `(tactic| wtm_at "ev_ne") => `(tactic| first | assumption | exact Ne.symm (by assumption))
local macro_rules | `(tactic| wtm_at "ev_lk") => `(tactic| first | assumption | exact upd_same | (refine lk_new' (by assumption) ?_; wtm_at "ev_lk") | (refine lk_ne (by wtm_at "ev_ne") ?_; wtm_at "ev_lk") | (refine same_lk (by assumption) ?_; wtm_at "ev_lk"))
local macro_rules | `(tactic| wtm_at "ev_sm") => `(tactic| first | assumption | exact Same.refl _ | (refine same_new ?_ (by assumption); wtm_at "ev_sm") | (refine Same.trans ?_ (by assumption); wtm_at "ev_sm"))
local macro_rules | `(tactic| wtm_at "ev_no") => `(tactic| first | assumption | exact no_back (by assumption) | (refine no_new ?_ (by wtm_at "ev_ne"); wtm_at "ev_no"))
local macro_rules | `(tactic| wtm_at "ev_sq") => `(tactic| first | assumption | exact SqL.of (by wtm_at "ev_lk") | exact SqT.of (by wtm_at "ev_lk"))
local macro_rules | `(tactic| wtm_at "ev_step") => `(tactic| with_reducible first
  | refine rd_seq ?_ | refine rd_next ?_ | refine rd_ret ?_ | refine rd_retN ?_ | refine rd_if ?_ | refine rd_drop ?_ | refine rd_asg ?_ | refine rd_name ?_ | refine rd_gsub ?_ | refine rd_gnil ?_ | refine rd_gcons ?_
  | refine rd_c ?_ | refine rd_op ?_ | refine rd_un ?_ | refine rd_rI0 ?_ | refine rd_rU ?_ | refine rd_tup ?_ | refine rd_lst ?_ | refine rd_nil ?_ | refine rd_cons ?_ | refine rd_cb ?_ | refine rd_call ?_ | refine rd_sl ?_ | refine rd_no ?_ | refine rd_part ?_
  | refine rd_test ?_ | refine rd_tB ?_ | refine rd_not ?_ | refine rd_and ?_ | refine rd_or ?_ | refine rd_notV ?_ | refine rd_andV ?_ | refine rd_orV ?_ | refine rd_ifE ?_ | refine rd_bl ?_ | refine rd_ex ?_
  | refine rd_rng1 ?_ | refine rd_overL ?_ | refine rd_overT ?_ | refine rd_forA ?_ | refine rd_forB ?_ | refine rd_forC ?_ | refine rd_lcA ?_ | refine rd_lcB ?_ | refine rd_lcC ?_ | refine rd_bm ?_ | refine rd_mkv ?_ | refine rd_xv ?_
  | refine rd_T ?_ | refine rd_F ?_ | refine rd_True ?_ | refine rd_False ?_ | refine rd_int ?_ | refine rd_intB ?_ | refine rd_one ?_ | refine rd_two ?_)
local macro_rules | `(tactic| wtm_at "ev_cond") => `(tactic| first | assumption | exact (show (0 : Int) < _ by decide) | exact (show (0 : Int) < _ by omega) | exact Or.inl ⟨by decide, by decide⟩ | exact Or.inr ⟨by decide, by decide⟩ | exact pow_cond (by decide) (by decide) (by first | decide | omega) (by first | decide | omega) | exact wide_div (b := 2000) (by first | assumption | decide | omega) (by first | decide | omega) (by decide) (by decide))
local macro_rules | `(tactic| wtm_at "ev_side") => `(tactic| first
  | ((with_reducible apply rd_var); exact rfl)
  | ((with_reducible apply rd_ixL); (wtm_at "ev_sq"); exact rfl)
  | ((with_reducible apply rd_ixT); (wtm_at "ev_sq"); exact rfl)
  | ((with_reducible apply rd_eq); exact rfl)
  | ((with_reducible apply rd_ne); exact rfl)
  | ((with_reducible apply rd_setL); (wtm_at "ev_lk"); exact rfl)
  | ((with_reducible apply rd_gtup); (wtm_at "ev_sq"); exact rfl)
  | ((with_reducible apply rd_len); (wtm_at "ev_sq"))
  | ((with_reducible apply rd_lenT); (wtm_at "ev_sq"))
  | ((with_reducible apply rd_rg); (first | decide | omega); (first | decide | omega))
  | ((with_reducible apply rd_atL); (wtm_at "ev_sq"))
  | ((with_reducible apply rd_atT); (wtm_at "ev_sq"))
  | ((with_reducible apply rd_tyL); (wtm_at "ev_sq"))
  | ((with_reducible apply rd_cat); (wtm_at "ev_lk"); (wtm_at "ev_lk"); exact Nat.le_of_ble_eq_true rfl)
  | ((with_reducible apply rd_size); exact Nat.le_of_ble_eq_true rfl)
  | ((with_reducible apply rd_rI); wtm_at "ev_cond"))
local macro_rules | `(tactic| wtm_at "ev_rd") => `(tactic| repeat (first | wtm_at "ev_step" | wtm_at "ev_side"))
local macro_rules | `(tactic| wtm_at "ev_go") => `(tactic| ((try simp only [L2.start, List.map_cons, List.map_nil, List.length_cons, List.length_nil, Nat.reduceAdd, Nat.reduceSub, List.replicate_succ, List.replicate_zero, List.cons_append, List.nil_append]); wtm_at "ev_rd"; (try simp only [List.set_cons_zero, List.set_cons_succ, upd_upd])))
def top (i : Nat) : Stmt := PySem.Challenge.pw_everyspan_k20_errors_of_strictness.main.body.getD i (.Pass ⟨0, 0, 0, 0⟩)
abbrev s_is_rule : Stmt := top 4
theorem sc_is_rule : FnScope ["rule", "width", "least", "most"] ["rule"] (defScope s_is_rule) := ⟨rfl, rfl, rfl, by decide +kernel, rfl, by decide +kernel, by decide +kernel⟩
abbrev s_highest_least : Stmt := top 5
theorem sc_highest_least : FnScope ["bounds", "best_width", "best_least", "_", "width", "least"] ["bounds"] (defScope s_highest_least) := ⟨rfl, rfl, rfl, by decide +kernel, rfl, by decide +kernel, by decide +kernel⟩
abbrev s_lowest_most : Stmt := top 6
theorem sc_lowest_most : FnScope ["bounds", "best_width", "_", "best_most", "width", "most"] ["bounds"] (defScope s_lowest_most) := ⟨rfl, rfl, rfl, by decide +kernel, rfl, by decide +kernel, by decide +kernel⟩
abbrev s_first_conflict : Stmt := top 7
theorem sc_first_conflict : FnScope ["bounds", "lowest", "lowest_width", "i", "width", "least", "_"] ["bounds"] (defScope s_first_conflict) := ⟨rfl, rfl, rfl, by decide +kernel, rfl, by decide +kernel, by decide +kernel⟩
abbrev s_first_exceeded : Stmt := top 8
theorem sc_first_exceeded : FnScope ["bounds", "width", "least", "j", "other_width", "_", "most"] ["bounds", "width", "least"] (defScope s_first_exceeded) := ⟨rfl, rfl, rfl, by decide +kernel, rfl, by decide +kernel, by decide +kernel⟩
abbrev s_SpanError_init : Stmt := inClass (top 10) 0
theorem sc_SpanError_init : FnScope ["self", "value"] ["self", "value"] (defScope s_SpanError_init) := ⟨rfl, rfl, rfl, by decide +kernel, rfl, by decide +kernel, by decide +kernel⟩
abbrev s_check_rows : Stmt := top 23
theorem sc_check_rows : FnScope ["book", "conflict"] ["book"] (defScope s_check_rows) := ⟨rfl, rfl, rfl, by decide +kernel, rfl, by decide +kernel, by decide +kernel⟩
abbrev s_strictest_least : Stmt := top 25
theorem sc_strictest_least : FnScope ["book", "width", "most", "most_width"] ["book", "width"] (defScope s_strictest_least) := ⟨rfl, rfl, rfl, by decide +kernel, rfl, by decide +kernel, by decide +kernel⟩
abbrev s_strictest_most : Stmt := top 26
theorem sc_strictest_most : FnScope ["book", "width", "least", "least_width"] ["book", "width"] (defScope s_strictest_most) := ⟨rfl, rfl, rfl, by decide +kernel, rfl, by decide +kernel, by decide +kernel⟩
abbrev s_check_width : Stmt := top 27
theorem sc_check_width : FnScope ["width"] ["width"] (defScope s_check_width) := ⟨rfl, rfl, rfl, by decide +kernel, rfl, by decide +kernel, by decide +kernel⟩
abbrev s_Book_init : Stmt := inClass (top 39) 0
theorem sc_Book_init : FnScope ["self", "low", "high", "rules", "number", "rule"] ["self", "low", "high", "rules"] (defScope s_Book_init) := ⟨rfl, rfl, rfl, by decide +kernel, rfl, by decide +kernel, by decide +kernel⟩
abbrev s_Book_eq : Stmt := inClass (top 39) 4
theorem sc_Book_eq : FnScope ["self", "other"] ["self", "other"] (defScope s_Book_eq) := ⟨rfl, rfl, rfl, by decide +kernel, rfl, by decide +kernel, by decide +kernel⟩
abbrev s_Book_bounds : Stmt := inClass (top 39) 5
theorem sc_Book_bounds : FnScope ["self"] ["self"] (defScope s_Book_bounds) := ⟨rfl, rfl, rfl, by decide +kernel, rfl, by decide +kernel, by decide +kernel⟩
abbrev s_Book_conflict : Stmt := inClass (top 39) 9
theorem sc_Book_conflict : FnScope ["self"] ["self"] (defScope s_Book_conflict) := ⟨rfl, rfl, rfl, by decide +kernel, rfl, by decide +kernel, by decide +kernel⟩
abbrev s_pool : Stmt := top 41
theorem sc_pool : FnScope ["script", "spot", "cell"] ["script", "spot"] (defScope s_pool) := ⟨rfl, rfl, rfl, by decide +kernel, rfl, by decide +kernel, by decide +kernel⟩
abbrev s_draw : Stmt := top 42
theorem sc_draw : FnScope ["pool", "many", "drawn", "mixed"] ["pool", "many"] (defScope s_draw) := ⟨rfl, rfl, rfl, by decide +kernel, rfl, by decide +kernel, by decide +kernel⟩
abbrev s_kind : Stmt := top 43
theorem sc_kind : FnScope ["pool", "wide", "often", "bottom_day", "top_day", "under", "lines", "over", "turn", "size", "few", "more"] ["pool", "wide", "often"] (defScope s_kind) := ⟨rfl, rfl, rfl, by decide +kernel, rfl, by decide +kernel, by decide +kernel⟩
abbrev s_made : Stmt := top 44
theorem sc_made : FnScope ["kind"] ["kind"] (defScope s_made) := ⟨rfl, rfl, rfl, by decide +kernel, rfl, by decide +kernel, by decide +kernel⟩
abbrev s_bounds : Stmt := top 45
theorem sc_bounds : FnScope ["kind"] ["kind"] (defScope s_bounds) := ⟨rfl, rfl, rfl, by decide +kernel, rfl, by decide +kernel, by decide +kernel⟩
abbrev s_flags : Stmt := top 46
theorem sc_flags : FnScope ["e", "odd"] ["e"] (defScope s_flags) := ⟨rfl, rfl, rfl, by decide +kernel, rfl, by decide +kernel, by decide +kernel⟩
abbrev s_caught : Stmt := top 47
theorem sc_caught : FnScope ["which", "made", "size", "e"] ["which", "made", "size"] (defScope s_caught) := ⟨rfl, rfl, rfl, by decide +kernel, rfl, by decide +kernel, by decide +kernel⟩
abbrev s_conflict : Stmt := top 48
theorem sc_conflict : FnScope ["kind", "bounds", "spot", "one", "at", "two"] ["kind"] (defScope s_conflict) := ⟨rfl, rfl, rfl, by decide +kernel, rfl, by decide +kernel, by decide +kernel⟩
abbrev s_right : Stmt := top 49
theorem sc_right : FnScope ["pool", "kind", "size", "few", "made", "torn", "due", "which"] ["pool"] (defScope s_right) := ⟨rfl, rfl, rfl, by decide +kernel, rfl, by decide +kernel, by decide +kernel⟩
abbrev s_law : Stmt := top 50
theorem sc_law : FnScope ["script", "spot", "pool", "turn"] ["script"] (defScope s_law) := ⟨rfl, rfl, rfl, by decide +kernel, rfl, by decide +kernel, by decide +kernel⟩
/-- names of the text that the module does not shadow -/
structure Blt (mg : Str → Option Value) : Prop where
  n_int : mg "int" = none
  n_max : mg "max" = none
  n_min : mg "min" = none
  n_abs : mg "abs" = none
  n_len : mg "len" = none
  n_repr : mg "repr" = none
  n_isinstance : mg "isinstance" = none
  n_range : mg "range" = none
  n_str : mg "str" = none
  n_list : mg "list" = none
  n_enumerate : mg "enumerate" = none
  n_ValueError : mg "ValueError" = none
/-- a number of a bounded size -/
def Num (i : Int) : Prop := i.natAbs < 2 ^ 1000
theorem Num.mul {i j : Int} (a : Num i) (b : Num j) : CMulW i j := wide_mul a b (by decide) (by decide) (by decide)
/-- a rule, and a list of rules -/
def Rl (H : Hp) (v : V) : Prop := ∃ (a : Addr) (w l m : Int), v = .ref a ∧ H a = some (.tup [.int w, .int l, .int m]) ∧ Num w ∧ Num l ∧ Num m
def Rls (H : Hp) (L : List V) : Prop := ∀ x ∈ L, Rl H x
theorem Rl.mono {H H' : Hp} {v : V} (h : Rl H v) (s : Same H H') : Rl H' v := by
  obtain ⟨a, w, l, m, rfl, e, b⟩ := h
  exact ⟨a, w, l, m, rfl, s _ _ e, b⟩
theorem Rls.mono {H H' : Hp} {L : List V} (h : Rls H L) (s : Same H H') : Rls H' L := fun x hx => (h x hx).mono s
theorem sqL_same {K : PySem.W.Frag} {H H' : Hp} {a : Addr} {xs : List V} (h : SqL K H a xs) (e : Same H H') : SqL K H' a xs :=
  h.elim (fun h => .inl (h.elim (fun h => .inl (e _ _ h)) fun ⟨o, h⟩ => .inr ⟨o, e _ _ h⟩)) fun h => .inr h
theorem rd_par {i j : Nat} {ta : TA} {D : Ends} {σ : L2.St} {H : Hp} (h : ta σ H fun vs H1 => ∃ v w, vs = [v, w] ∧ D.nx ((σ.set i (some v)).set j (some w)) H1) : tPar i j ta D σ H := h
theorem rd_par2 {v w : V} {A : V → V → Prop} (q : A v w) : ∃ x y, [v, w] = [x, y] ∧ A x y := ⟨v, w, rfl, q⟩
local macro_rules | `(tactic| wtm_at "ev_step") => `(tactic| with_reducible first | refine rd_par ?_ | refine rd_par2 ?_ | refine rd_forD ?_)
local macro_rules | `(tactic| wtm_at "ev_side") => `(tactic| ((with_reducible apply rd_enumL); (wtm_at "ev_sq")))
local macro_rules | `(tactic| wtm_at "ev_cond") => `(tactic| exact Num.mul (by assumption) (by assumption))
section
variable {P : Program} {w : World} {K : PySem.W.Frag} {mg : Str → Option Value} {base : Heap}
end
def PoolL (L : List V) (n : Int) : Prop := ∃ z m c : Int, L = [.int z, .int m, .int c] ∧ 0 ≤ m ∧ m < 4611686018427387904 ∧ 0 ≤ c ∧ c ≤ n
theorem PoolL.le {L : List V} {n m : Int} (h : PoolL L n) (e : n ≤ m) : PoolL L m := by
  obtain ⟨z, a, c, rfl, h1, h2, h3, h4⟩ := h
  exact ⟨z, a, c, rfl, h1, h2, h3, Int.le_trans h4 e⟩
def spDraw : Sp := fun vs H Q _ => ∃ (p : Addr) (L : List V) (n m : Int), vs = [.ref p, .int m] ∧ H p = some (.lst L) ∧ PoolL L n ∧ n ≤ 1000000000 ∧ 0 < m ∧ m < 2 ^ 2000 ∧ ∀ (d : Int) (L' : List V), 0 ≤ d → d < m → PoolL L' (n + 1) → Q (.int d) (upd H p (.lst L'))
theorem rd_draw {H : Hp} {Q : VK} {E : XK} {p : Addr} {L : List V} {n m : Int} (hp : H p = some (.lst L)) (hL : PoolL L n) (hn : n ≤ 1000000000) (h0 : 0 < m) (hm : m < 2 ^ 2000)
    (q : ∀ (d : Int) (L' : List V), 0 ≤ d → d < m → PoolL L' (n + 1) → Q (.int d) (upd H p (.lst L'))) : spDraw ([.ref p, .int m] ++ []) H Q E := ⟨p, L, n, m, rfl, hp, hL, hn, h0, hm, q⟩
section
variable {P : Program} {w : World} {K : PySem.W.Frag} {mg : Str → Option Value} {base : Heap} {fI c0 c1 c2 c3 c4 c5 c6 c7 c8 c9 c10 c11 : Addr}
set_option maxHeartbeats 1000000 in
theorem ok_draw {f : Addr} {fd : FuncData} (F : Fun K "_law_draw" "_law_draw" s_draw f fd) (T : Blt mg) : FnOk P w K mg base CX0 1 f fd ["pool", "many"] spDraw := by
  refine F.ok sc_draw (fun vs H Q E h => ?_) (fun cdv A outer s H vs Q E hr h => ?_)
  · obtain ⟨p, L, n, m, rfl, _⟩ := h
    rfl
  · obtain ⟨p, L, n, m, rfl, hp, ⟨z, y, c, rfl, hy0, hy1, hc0, hc1⟩, hn, hm, hm2, k⟩ := h
    refine ⟨_, (pss_cons (ps_if (pt_cmpR op_gt (pe_ix ix_list (pv 0) pe_int (fun _ _ => rfl)) pe_int (nomark _)) 
        (pss_cons (ps_set (i := 2) sc_draw.nd rfl (Or.inl rfl) (pe_op op_mod (pe_callTy call_int1 (by rfl) T.n_int boot_int (pa_cons (pe_ix ix_list (pv 0) pe_int (fun _ _ => rfl)) pa_nil)) (pv 1)))
        (pss_cons (ps_asg (pe_op op_fdivW (pe_ix ix_list (pv 0) pe_int (fun _ _ => rfl)) (pv 1)) (pg_sub (pv 0) pe_int set_list))
        (pss_one (ps_ret (pv 2))))) pss_nil)
      (pss_cons (ps_asg (pe_op op_add (pe_ix ix_list (pv 0) pe_int (fun _ _ => rfl)) pe_int) (pg_sub (pv 0) pe_int set_list))
      (pss_cons (ps_set (i := 3) sc_draw.nd rfl (Or.inl rfl) (pe_op op_mod (pe_callTy call_int1 (by rfl) T.n_int boot_int (pa_cons (pe_op op_powW (pe_op op_add (pe_ix ix_list (pv 0) pe_int (fun _ _ => rfl)) (pe_op op_mul pe_int (pe_ix ix_list (pv 0) pe_int (fun _ _ => rfl)))) pe_int) pa_nil)) pe_int))
      (pss_cons (ps_set (i := 3) sc_draw.nd rfl (Or.inl rfl) (pe_op op_mod (pe_callTy call_int1 (by rfl) T.n_int boot_int (pa_cons (pe_op op_powW (pe_op op_add (pv 3) (pe_op op_mul pe_int (pe_ix ix_list (pv 0) pe_int (fun _ _ => rfl)))) pe_int) pa_nil)) pe_int))
      (pss_one (ps_ret (pe_op op_mod (pe_callTy call_int1 (by rfl) T.n_int boot_int (pa_cons (pe_op op_fdivW (pv 3) pe_int) pa_nil)) (pv 1)))))))), ?_⟩
    wtm_at "ev_go"
    refine rd_ite (fun hz => ?_) (fun hz => ?_)
    · wtm_at "ev_go"
      exact k _ _ (Int.emod_nonneg _ (by omega)) (Int.emod_lt_of_pos _ hm) ⟨_, _, _, rfl, hy0, hy1, hc0, by omega⟩
    · wtm_at "ev_go"
      exact k _ _ (Int.emod_nonneg _ (by omega)) (Int.emod_lt_of_pos _ hm) ⟨_, _, _, rfl, hy0, hy1, by omega, by omega⟩
def spPool (K : PySem.W.Frag) : Sp := fun vs H Q _ => ∃ (a : Addr) (ns : List Int) (i : Int), vs = [.ref a, .int i] ∧ SqL K H a (ns.map V.int) ∧ 0 ≤ i ∧ i ≤ 100 ∧ ∀ (p : Addr) (L : List V), H p = none → PoolL L 0 → Q (.ref p) (upd H p (.lst L))
set_option maxHeartbeats 1000000 in
theorem ok_pool {f : Addr} {fd : FuncData} (F : Fun K "_law_pool" "_law_pool" s_pool f fd) (T : Blt mg) : FnOk P w K mg base CX0 1 f fd ["script", "spot"] (spPool K) := by
  refine F.ok sc_pool (fun vs H Q E h => ?_) (fun cdv A outer s H vs Q E hr h => ?_)
  · obtain ⟨a, ns, i, rfl, _⟩ := h
    rfl
  · obtain ⟨a, ns, i, rfl, hS, hi0, hi1, k⟩ := h
    have fin : ∀ (x c : Int) (p : Addr), H p = none → Q (.ref p) (upd H p (.lst [.int x, .int (c % 2305843009213693951 + 7368787 * (i + 1)), .int 0])) := fun x c p hp =>
      k p _ hp ⟨_, _, _, rfl, by have := Int.emod_nonneg c (by decide : (2305843009213693951 : Int) ≠ 0); omega, by have := Int.emod_lt_of_pos c (by decide : (0 : Int) < 2305843009213693951); omega, by decide, by decide⟩
    refine ⟨_, (pss_cons (ps_set (i := 2) sc_pool.nd rfl (Or.inl rfl) pe_int)
      (pss_cons (ps_if (pt_cmpR op_lt (pv 1) (pe_callB call_len_seq (by rfl) T.n_len PySem.boot_len (pa_cons (pv 0) pa_nil)) (nomark _)) 
        (pss_one (ps_set (i := 2) sc_pool.nd rfl (Or.inl rfl) (pe_ix ix_list (pv 0) (pv 1) (fun _ _ => rfl)))) pss_nil)
      (pss_one (ps_ret (pe_lst (pa_cons (pe_callB (call_max2 rfl) (by rfl) T.n_max boot_max (pa_cons pe_int (pa_cons (pe_op op_sub (pe_callB call_abs (by rfl) T.n_abs boot_abs (pa_cons (pv 2) pa_nil)) (pe_op op_powW pe_int pe_int)) pa_nil))) (pa_cons (pe_op op_add (pe_op op_mod (pe_callTy call_int1 (by rfl) T.n_int boot_int (pa_cons (pv 2) pa_nil)) pe_int) (pe_op op_mul pe_int (pe_op op_add (pv 1) pe_int))) (pa_cons pe_int pa_nil)))))))), ?_⟩
    wtm_at "ev_go"
    rw [List.length_map]
    refine rd_ite (fun hl => ?_) (fun hl => ?_)
    · obtain ⟨z, hz⟩ := at_int hi0 hl
      wtm_at "ev_go"
      refine rd_ixL hS hz ?_
      wtm_at "ev_go"
      exact fun p hp => fin _ _ p hp
    · wtm_at "ev_go"
      exact fun p hp => fin _ _ p hp
end
def Fr (p : Addr) (H H' : Hp) : Prop := ∀ b o, H b = some o → b ≠ p → H' b = some o
theorem Fr.trans {p : Addr} {H H1 H2 : Hp} (h : Fr p H H1) (g : Fr p H1 H2) : Fr p H H2 := fun b o z n => g b o (h b o z n) n
theorem Fr.same {p : Addr} {H H1 H2 : Hp} (h : Fr p H H1) (g : Same H1 H2) : Fr p H H2 := fun b o z n => g b o (h b o z n)
theorem Fr.put {p : Addr} {H H1 : Hp} {x : HO} (h : Fr p H H1) : Fr p H (upd H1 p x) := fun b o z n => lk_ne n (h b o z n)
theorem Fr.of {p : Addr} {H H1 : Hp} (h : Same H H1) : Fr p H H1 := fun b o z _ => h b o z
/-- a list of rules with these numbers -/
def RlR (H : Hp) (L : List V) (rs : List (Int × Int × Int)) : Prop := L.length = rs.length ∧ ∀ (i : Nat) (v : V), L[i]? = some v → ∃ (a : Addr) (r : Int × Int × Int), v = .ref a ∧ rs[i]? = some r ∧ H a = some (.tup [.int r.1, .int r.2.1, .int r.2.2]) ∧ Num r.1 ∧ Num r.2.1 ∧ Num r.2.2
theorem RlR.mono {H H' : Hp} {L : List V} {rs : List (Int × Int × Int)} (h : RlR H L rs) (s : Same H H') : RlR H' L rs := ⟨h.1, fun i v e => by obtain ⟨a, r, h1, h2, h3, h4⟩ := h.2 i v e; exact ⟨a, r, h1, h2, s _ _ h3, h4⟩⟩
theorem RlR.rls {H : Hp} {L : List V} {rs : List (Int × Int × Int)} (h : RlR H L rs) : Rls H L := fun x hx => by
  obtain ⟨i, hi⟩ := List.getElem?_of_mem hx
  obtain ⟨a, r, h1, h2, h3, h4, h5, h6⟩ := h.2 i x hi
  exact ⟨a, r.1, r.2.1, r.2.2, h1, h3, h4, h5, h6⟩
def okR (r : Int × Int × Int) : Bool := decide (1 ≤ r.1) && decide (r.2.1 ≤ r.2.2)
theorem at_intM {ns : List Int} {i : Int} (h0 : 0 ≤ i) (h : i < (ns.length : Int)) : ∃ z, z ∈ ns ∧ atI (ns.map V.int) i = some (.int z) := by
  obtain ⟨k, rfl⟩ : ∃ k : Nat, i = (k : Int) := ⟨i.toNat, by omega⟩
  have hk : k < ns.length := by omega
  exact ⟨ns[k], List.getElem_mem hk, atI_nat (by rw [List.getElem?_map, List.getElem?_eq_getElem hk]; rfl)⟩
def lineD (r : Int × Int × Int) : PyData := .tuple [.int r.1, .int r.2.1, .int r.2.2]
theorem RlR.all {K : PySem.W.Frag} {H : Hp} : ∀ {L : List V} {rs : List (Int × Int × Int)}, RlR H L rs → DpAll K H L (rs.map lineD)
  | [], [], _ => .nil
  | [], _ :: _, h => by cases h.1
  | _ :: _, [], h => by cases h.1
  | v :: L, r :: rs, h => by
    obtain ⟨a, r', rfl, e, ha, _⟩ := h.2 0 v rfl
    cases e
    refine .cons (.tup (SqT.of ha) (.cons (.int _) (.cons (.int _) (.cons (.int _) .nil)))) (RlR.all ⟨by have := h.1; simpa using this, fun i w e => ?_⟩)
    obtain ⟨b, q, h1, h2, h3⟩ := h.2 (i + 1) w e
    exact ⟨b, q, h1, h2, h3⟩
theorem RlR.put {H : Hp} {L : List V} {rs : List (Int × Int × Int)} {p : Addr} {xs : List V} {o : HO} (h : RlR H L rs) (hp : H p = some (.lst xs)) : RlR (upd H p o) L rs :=
  ⟨h.1, fun i v e => by obtain ⟨a, r, h1, h2, h3, h4⟩ := h.2 i v e; exact ⟨a, r, h1, h2, lk_ne (ne_of h3 hp (fun z => by cases z)) h3, h4⟩⟩
theorem RlR.add {H : Hp} {L : List V} {rs : List (Int × Int × Int)} {a : Addr} {w l m : Int} (h : RlR H L rs) (ha : H a = some (.tup [.int w, .int l, .int m])) (h1 : Num w) (h2 : Num l) (h3 : Num m) : RlR H (L ++ [.ref a]) (rs ++ [(w, l, m)]) := by
  refine ⟨by rw [List.length_append, List.length_append, h.1]; rfl, fun i v e => ?_⟩
  by_cases hi : i < L.length
  · rw [List.getElem?_append_left hi] at e
    obtain ⟨b, r, q1, q2, q3⟩ := h.2 i v e
    exact ⟨b, r, q1, by rw [List.getElem?_append_left (by rw [← h.1]; exact hi)]; exact q2, q3⟩
  · have hi' : i = L.length := by
      have := (List.getElem?_eq_some_iff.mp e).1
      rw [List.length_append, List.length_singleton] at this
      omega
    subst hi'
    rw [List.getElem?_append_right (Nat.le_refl _), Nat.sub_self] at e
    cases e
    exact ⟨a, (w, l, m), rfl, by rw [h.1, List.getElem?_append_right (Nat.le_refl _), Nat.sub_self]; rfl, ha, h1, h2, h3⟩
theorem num_of {i : Int} (h : i.natAbs < 10 ^ 9) : Num i := Nat.lt_trans h (by decide +kernel)
/-- small numbers all -/
def Small (rs : List (Int × Int × Int)) : Prop := ∀ r ∈ rs, (r.1.natAbs < 10 ^ 9 ∧ r.2.1.natAbs < 10 ^ 9 ∧ r.2.2.natAbs < 10 ^ 9)
theorem Small.sh {rs : List (Int × Int × Int)} (h : Small rs) (hl : rs.length ≤ 100) : Sh (.list (rs.map lineD)) 4000 2 := by
  refine (Sh.list (n := 36) (k := 1) fun d hd => ?_).mono (by rw [List.length_map]; omega) (Nat.le_refl _)
  obtain ⟨r, hr, rfl⟩ := List.mem_map.mp hd
  obtain ⟨h1, h2, h3⟩ := h r hr
  exact Sh.tup (n := 10) (k := 0) (ds := [.int r.2.2]) fun x hx => by
    simp only [List.mem_cons, List.not_mem_nil, or_false] at hx
    rcases hx with rfl | rfl | rfl
    · exact Sh.int h1
    · exact Sh.int h2
    · exact Sh.int h3
end Ev

namespace Ev
open PySem PySem.Spec PyProof.Rows L2
local macro_rules | `(tactic| wtm_at "ev_ne") => `(tactic| first | assumption | exact Ne.symm (by assumption))
local macro_rules | `(tactic| wtm_at "ev_lk") => `(tactic| first | assumption | exact upd_same | (refine lk_new' (by assumption) ?_; wtm_at "ev_lk") | (refine lk_ne (by wtm_at "ev_ne") ?_; wtm_at "ev_lk") | (refine same_lk (by assumption) ?_; wtm_at "ev_lk"))
local macro_rules | `(tactic| wtm_at "ev_sm") => `(tactic| first | assumption | exact Same.refl _ | (refine same_new ?_ (by assumption); wtm_at "ev_sm") | (refine Same.trans ?_ (by assumption); wtm_at "ev_sm"))
local macro_rules | `(tactic| wtm_at "ev_no") => `(tactic| first | assumption | exact no_back (by assumption) | (refine no_new ?_ (by wtm_at "ev_ne"); wtm_at "ev_no"))
local macro_rules | `(tactic| wtm_at "ev_sq") => `(tactic| first | assumption | exact SqL.of (by wtm_at "ev_lk") | exact SqT.of (by wtm_at "ev_lk"))
local macro_rules | `(tactic| wtm_at "ev_step") => `(tactic| with_reducible first
  | refine rd_seq ?_ | refine rd_next ?_ | refine rd_ret ?_ | refine rd_retN ?_ | refine rd_if ?_ | refine rd_drop ?_ | refine rd_asg ?_ | refine rd_name ?_ | refine rd_gsub ?_ | refine rd_gnil ?_ | refine rd_gcons ?_
  | refine rd_c ?_ | refine rd_op ?_ | refine rd_un ?_ | refine rd_rI0 ?_ | refine rd_rU ?_ | refine rd_tup ?_ | refine rd_lst ?_ | refine rd_nil ?_ | refine rd_cons ?_ | refine rd_cb ?_ | refine rd_call ?_ | refine rd_sl ?_ | refine rd_no ?_ | refine rd_part ?_
  | refine rd_test ?_ | refine rd_tB ?_ | refine rd_not ?_ | refine rd_and ?_ | refine rd_or ?_ | refine rd_notV ?_ | refine rd_andV ?_ | refine rd_orV ?_ | refine rd_ifE ?_ | refine rd_bl ?_ | refine rd_ex ?_
  | refine rd_rng1 ?_ | refine rd_overL ?_ | refine rd_overT ?_ | refine rd_forA ?_ | refine rd_forB ?_ | refine rd_forC ?_ | refine rd_lcA ?_ | refine rd_lcB ?_ | refine rd_lcC ?_ | refine rd_bm ?_ | refine rd_mkv ?_ | refine rd_xv ?_
  | refine rd_T ?_ | refine rd_F ?_ | refine rd_True ?_ | refine rd_False ?_ | refine rd_int ?_ | refine rd_intB ?_ | refine rd_one ?_ | refine rd_two ?_)
local macro_rules | `(tactic| wtm_at "ev_cond") => `(tactic| first | assumption | exact (show (0 : Int) < _ by decide) | exact (show (0 : Int) < _ by omega) | exact Or.inl ⟨by decide, by decide⟩ | exact Or.inr ⟨by decide, by decide⟩ | exact pow_cond (by decide) (by decide) (by first | decide | omega) (by first | decide | omega) | exact wide_div (b := 2000) (by first | assumption | decide | omega) (by first | decide | omega) (by decide) (by decide))
local macro_rules | `(tactic| wtm_at "ev_side") => `(tactic| first
  | ((with_reducible apply rd_var); exact rfl)
  | ((with_reducible apply rd_ixL); (wtm_at "ev_sq"); exact rfl)
  | ((with_reducible apply rd_ixT); (wtm_at "ev_sq"); exact rfl)
  | ((with_reducible apply rd_eq); exact rfl)
  | ((with_reducible apply rd_ne); exact rfl)
  | ((with_reducible apply rd_setL); (wtm_at "ev_lk"); exact rfl)
  | ((with_reducible apply rd_gtup); (wtm_at "ev_sq"); exact rfl)
  | ((with_reducible apply rd_len); (wtm_at "ev_sq"))
  | ((with_reducible apply rd_lenT); (wtm_at "ev_sq"))
  | ((with_reducible apply rd_rg); (first | decide | omega); (first | decide | omega))
  | ((with_reducible apply rd_atL); (wtm_at "ev_sq"))
  | ((with_reducible apply rd_atT); (wtm_at "ev_sq"))
  | ((with_reducible apply rd_tyL); (wtm_at "ev_sq"))
  | ((with_reducible apply rd_cat); (wtm_at "ev_lk"); (wtm_at "ev_lk"); exact Nat.le_of_ble_eq_true rfl)
  | ((with_reducible apply rd_size); exact Nat.le_of_ble_eq_true rfl)
  | ((with_reducible apply rd_rI); wtm_at "ev_cond"))
local macro_rules | `(tactic| wtm_at "ev_rd") => `(tactic| repeat (first | wtm_at "ev_step" | wtm_at "ev_side"))
local macro_rules | `(tactic| wtm_at "ev_go") => `(tactic| ((try simp only [L2.start, List.map_cons, List.map_nil, List.length_cons, List.length_nil, Nat.reduceAdd, Nat.reduceSub, List.replicate_succ, List.replicate_zero, List.cons_append, List.nil_append]); wtm_at "ev_rd"; (try simp only [List.set_cons_zero, List.set_cons_succ, upd_upd])))
local macro_rules | `(tactic| wtm_at "ev_step") => `(tactic| with_reducible first | refine rd_par ?_ | refine rd_par2 ?_ | refine rd_forD ?_)
local macro_rules | `(tactic| wtm_at "ev_side") => `(tactic| ((with_reducible apply rd_enumL); (wtm_at "ev_sq")))
local macro_rules | `(tactic| wtm_at "ev_cond") => `(tactic| exact Num.mul (by assumption) (by assumption))
/-! ### a book's numbers, with a share that all bounds let through -/
def Shared (lo hi : Int) (rs : List (Int × Int × Int)) : Prop := ∃ o u : Int, 0 < u ∧ lo * u ≤ o ∧ o ≤ hi * u ∧ ∀ r ∈ rs, r.2.1 * u ≤ r.1 * o ∧ r.1 * o ≤ r.2.2 * u
/-- the numbers stay small -/
def Within (wd : Int) (rs : List (Int × Int × Int)) : Prop := ∀ r ∈ rs, 1 ≤ r.1 ∧ r.1 ≤ wd ∧ -1000 ≤ r.2.1 ∧ r.2.1 ≤ 1000 ∧ -1000 ≤ r.2.2 ∧ r.2.2 ≤ 1000
def spKind : Sp := fun vs H Q _ => ∃ (p : Addr) (L : List V) (n wd often : Int), vs = [.ref p, .int wd, .int often] ∧ H p = some (.lst L) ∧ PoolL L n ∧ n ≤ 1000000 ∧ 1 ≤ wd ∧ wd ≤ 40 ∧ 0 ≤ often ∧ often ≤ 90 ∧
  ∀ (kd l : Addr) (L' R : List V) (rs : List (Int × Int × Int)) (lo hi : Int) (H' : Hp), Fr p H H' → H' p = some (.lst L') → PoolL L' (n + 1000) → H' kd = some (.tup [.int lo, .int hi, .ref l]) → H kd = none → H' l = some (.lst R) → H l = none → kd ≠ l → RlR H' R rs → (rs.length : Int) ≤ often →
    -20 ≤ lo → lo ≤ hi → hi ≤ 20 → Within wd rs → Shared lo hi rs → Q (.ref kd) H'
theorem floor_low {t u z : Int} (hu : 0 < u) (h1 : -800 * u ≤ t) (h2 : t ≤ 800 * u) (hz : 0 ≤ z) : (if t / u - z > -1000 then t / u - z else -1000) * u ≤ t ∧ -1000 ≤ (if t / u - z > -1000 then t / u - z else -1000) ∧ (if t / u - z > -1000 then t / u - z else -1000) ≤ 1000 := by
  have a1 : t / u * u ≤ t := Int.ediv_mul_le t (by omega)
  generalize t / u = q at a1 ⊢
  have a2 : q ≤ 800 := by
    by_cases h : q ≤ 800
    · exact h
    · have := Int.mul_le_mul_of_nonneg_right (show (801 : Int) ≤ q by omega) (show 0 ≤ u by omega)
      omega
  have a3 : 0 ≤ z * u := Int.mul_nonneg hz (by omega)
  by_cases h : q - z > -1000
  · rw [if_pos h]
    refine ⟨?_, by omega, by omega⟩
    rw [Int.sub_mul]
    omega
  · rw [if_neg h]
    exact ⟨by omega, by omega, by omega⟩
theorem ceil_high {t u y : Int} (hu : 0 < u) (h1 : -800 * u ≤ t) (h2 : t ≤ 800 * u) (hy : 0 ≤ y) : t ≤ (if 0 - (0 - t) / u + y < 1000 then 0 - (0 - t) / u + y else 1000) * u ∧ -1000 ≤ (if 0 - (0 - t) / u + y < 1000 then 0 - (0 - t) / u + y else 1000) ∧ (if 0 - (0 - t) / u + y < 1000 then 0 - (0 - t) / u + y else 1000) ≤ 1000 := by
  have a1 : (0 - t) / u * u ≤ 0 - t := Int.ediv_mul_le (0 - t) (by omega)
  generalize (0 - t) / u = q at a1 ⊢
  have a2 : q ≤ 800 := by
    by_cases h : q ≤ 800
    · exact h
    · have := Int.mul_le_mul_of_nonneg_right (show (801 : Int) ≤ q by omega) (show 0 ≤ u by omega)
      omega
  have a3 : 0 ≤ y * u := Int.mul_nonneg hy (by omega)
  by_cases h : 0 - q + y < 1000
  · rw [if_pos h]
    refine ⟨?_, by omega, by omega⟩
    rw [Int.add_mul, Int.sub_mul]
    omega
  · rw [if_neg h]
    exact ⟨by omega, by omega, by omega⟩
theorem times_in {s o u : Int} (hs : 1 ≤ s) (hs' : s ≤ 40) (hu : 0 < u) (h1 : -20 * u ≤ o) (h2 : o ≤ 20 * u) : -800 * u ≤ s * o ∧ s * o ≤ 800 * u := by
  have b1 := Int.mul_le_mul_of_nonneg_left h1 (show 0 ≤ s by omega)
  have b2 := Int.mul_le_mul_of_nonneg_left h2 (show 0 ≤ s by omega)
  have b3 := Int.mul_le_mul_of_nonneg_right hs' (show 0 ≤ u by omega)
  rw [Int.mul_left_comm] at b1 b2
  exact ⟨by omega, by omega⟩
theorem lt2000 {m : Int} (h : m < 1000000000) : m < 2 ^ 2000 := Int.lt_trans h (by decide +kernel)
section
variable {P : Program} {w : World} {K : PySem.W.Frag} {mg : Str → Option Value} {base : Heap}
set_option maxHeartbeats 4000000 in
theorem ok_kind {f : Addr} {fd : FuncData} (F : Fun K "_law_kind" "_law_kind" s_kind f fd) (T : Blt mg) (GD : CalN P w K mg base 1 "_law_draw" spDraw) : FnOk P w K mg base CX0 2 f fd ["pool", "wide", "often"] spKind := by
  refine F.ok sc_kind (fun vs H Q E h => ?_) (fun cdv A outer s H vs Q E hr h => ?_)
  · obtain ⟨p, L, n, wd, often, rfl, _⟩ := h
    rfl
  · obtain ⟨p, L, n, wd, often, rfl, hp, hL, hn, w1, w2, o1, o2, k⟩ := h
    refine ⟨_, (pss_cons (ps_set (i := 3) sc_kind.nd rfl (Or.inl rfl) (pe_ix ix_list (pe_lst (pa_cons pe_int (pa_cons pe_int (pa_cons (pe_op op_sub (pe_op op_sub pe_int pe_int) (pe_cN GD hr (by decide) (by rfl) (pa_cons (pv 0) (pa_cons pe_int pa_nil)))) (pa_cons (pe_op op_sub (pe_cN GD hr (by decide) (by rfl) (pa_cons (pv 0) (pa_cons pe_int pa_nil))) pe_int) pa_nil))))) (pe_cN GD hr (by decide) (by rfl) (pa_cons (pv 0) (pa_cons pe_int pa_nil))) (fun _ _ => rfl)))
      (pss_cons (ps_set (i := 4) sc_kind.nd rfl (Or.inl rfl) (pe_callB (call_min2 rfl) (by rfl) T.n_min boot_min (pa_cons pe_int (pa_cons (pe_op op_add (pv 3) (pe_ix ix_list (pe_lst (pa_cons pe_int (pa_cons pe_int (pa_cons (pe_op op_add pe_int (pe_cN GD hr (by decide) (by rfl) (pa_cons (pv 0) (pa_cons pe_int pa_nil)))) (pa_cons (pe_cN GD hr (by decide) (by rfl) (pa_cons (pv 0) (pa_cons pe_int pa_nil))) pa_nil))))) (pe_cN GD hr (by decide) (by rfl) (pa_cons (pv 0) (pa_cons pe_int pa_nil))) (fun _ _ => rfl))) pa_nil))))
      (pss_cons (ps_par (i := 5) (j := 6) (by rfl) sc_kind.nd rfl rfl (by decide) rfl rfl (pa_cons (pe_op op_add pe_int (pe_cN GD hr (by decide) (by rfl) (pa_cons (pv 0) (pa_cons pe_int pa_nil)))) (pa_cons (pe_lst pa_nil) pa_nil)) (by rfl))
      (pss_cons (ps_set (i := 7) sc_kind.nd rfl (Or.inl rfl) (pe_op op_add (pe_op op_mulW (pv 3) (pv 5)) (pe_cN GD hr (by decide) (by rfl) (pa_cons (pv 0) (pa_cons (pe_op op_add (pe_op op_mulW (pe_op op_sub (pv 4) (pv 3)) (pv 5)) pe_int) pa_nil)))))
      (pss_cons (ps_for PassesOwn.never rfl (pi_range1 (by rfl) T.n_range (pa_cons (pe_cN GD hr (by decide) (by rfl) (pa_cons (pv 0) (pa_cons (pe_op op_add (pv 2) pe_int) pa_nil))) pa_nil)) (pg_name (i := 8) sc_kind.nd rfl (Or.inl rfl)) 
        (pss_cons (ps_set (i := 9) sc_kind.nd rfl (Or.inl rfl) (pe_op op_add pe_int (pe_cN GD hr (by decide) (by rfl) (pa_cons (pv 0) (pa_cons (pv 1) pa_nil)))))
        (pss_cons (ps_set (i := 10) sc_kind.nd rfl (Or.inl rfl) (pe_op op_sub (pe_op op_fdivW (pe_op op_mulW (pv 9) (pv 7)) (pv 5)) (pe_ix ix_list (pe_lst (pa_cons pe_int (pa_cons pe_int (pa_cons (pe_cN GD hr (by decide) (by rfl) (pa_cons (pv 0) (pa_cons pe_int pa_nil))) (pa_cons (pe_cN GD hr (by decide) (by rfl) (pa_cons (pv 0) (pa_cons (pe_op op_mulW pe_int (pv 9)) pa_nil))) pa_nil))))) (pe_cN GD hr (by decide) (by rfl) (pa_cons (pv 0) (pa_cons pe_int pa_nil))) (fun _ _ => rfl))))
        (pss_cons (ps_set (i := 11) sc_kind.nd rfl (Or.inl rfl) (pe_op op_sub pe_int (pe_op op_fdivW (pe_op op_sub pe_int (pe_op op_mulW (pv 9) (pv 7))) (pv 5))))
        (pss_cons (ps_set (i := 11) sc_kind.nd rfl (Or.inl rfl) (pe_op op_add (pv 11) (pe_ix ix_list (pe_lst (pa_cons pe_int (pa_cons pe_int (pa_cons (pe_cN GD hr (by decide) (by rfl) (pa_cons (pv 0) (pa_cons pe_int pa_nil))) (pa_cons (pe_cN GD hr (by decide) (by rfl) (pa_cons (pv 0) (pa_cons (pe_op op_mulW pe_int (pv 9)) pa_nil))) pa_nil))))) (pe_cN GD hr (by decide) (by rfl) (pa_cons (pv 0) (pa_cons pe_int pa_nil))) (fun _ _ => rfl))))
        (pss_one (ps_expr (pe_bm PySem.F.plainAttrs_list PySem.F.slot_list_append PySem.F.type_list_append mt_append (pv 6) (pa_cons (pe_tup (pa_cons (pv 9) (pa_cons (pe_callB (call_max2 rfl) (by rfl) T.n_max boot_max (pa_cons (pe_un un_neg pe_int) (pa_cons (pv 10) pa_nil))) (pa_cons (pe_callB (call_min2 rfl) (by rfl) T.n_min boot_min (pa_cons pe_int (pa_cons (pv 11) pa_nil))) pa_nil)))) pa_nil)))))))))
      (pss_one (ps_ret (pe_tup (pa_cons (pv 3) (pa_cons (pv 4) (pa_cons (pv 6) pa_nil))))))))))), ?_⟩
    wtm_at "ev_go"
    refine rd_draw (by wtm_at "ev_lk") hL (by omega) (by decide) (by decide +kernel) (fun d1 Ld1 ad1 bd1 hLd1 => ?_)
    wtm_at "ev_go"
    refine rd_draw (by wtm_at "ev_lk") hLd1 (by omega) (by decide) (by decide +kernel) (fun d2 Ld2 ad2 bd2 hLd2 => ?_)
    wtm_at "ev_go"
    intro q1 hq1
    have nq1 := hq1
    simp only [upd_none] at nq1
    repeat obtain ⟨_, nq1⟩ := nq1
    wtm_at "ev_go"
    refine rd_draw (by wtm_at "ev_lk") hLd2 (by omega) (by decide) (by decide +kernel) (fun d3 Ld3 ad3 bd3 hLd3 => ?_)
    wtm_at "ev_go"
    obtain ⟨lo, mlo, elo⟩ := at_intM (ns := [0, 0, 0 - 1 - d1, d2 - 20]) ad3 bd3
    have clo : -20 ≤ lo ∧ lo ≤ 20 := by
      simp only [List.mem_cons, List.not_mem_nil, or_false] at mlo
      omega
    refine rd_ixL (SqL.of (by wtm_at "ev_lk")) elo ?_
    wtm_at "ev_go"
    refine rd_draw (by wtm_at "ev_lk") hLd3 (by omega) (by decide) (by decide +kernel) (fun d4 Ld4 ad4 bd4 hLd4 => ?_)
    wtm_at "ev_go"
    refine rd_draw (by wtm_at "ev_lk") hLd4 (by omega) (by decide) (by decide +kernel) (fun d5 Ld5 ad5 bd5 hLd5 => ?_)
    wtm_at "ev_go"
    intro q2 hq2
    have nq2 := hq2
    simp only [upd_none] at nq2
    repeat obtain ⟨_, nq2⟩ := nq2
    wtm_at "ev_go"
    refine rd_draw (by wtm_at "ev_lk") hLd5 (by omega) (by decide) (by decide +kernel) (fun d6 Ld6 ad6 bd6 hLd6 => ?_)
    wtm_at "ev_go"
    obtain ⟨z6, m6, e6⟩ := at_intM (ns := [1, 1, 1 + d4, d5]) ad6 bd6
    have c6 : 0 ≤ z6 ∧ z6 ≤ 20 := by
      simp only [List.mem_cons, List.not_mem_nil, or_false] at m6
      omega
    refine rd_ixL (SqL.of (by wtm_at "ev_lk")) e6 ?_
    wtm_at "ev_go"
    have chi : lo ≤ (if lo + z6 < 20 then lo + z6 else 20) ∧ (if lo + z6 < 20 then lo + z6 else 20) ≤ 20 := by split <;> omega
    generalize (if lo + z6 < 20 then lo + z6 else 20) = hi at chi ⊢
    refine rd_draw (by wtm_at "ev_lk") hLd6 (by omega) (by decide) (by decide +kernel) (fun d7 Ld7 ad7 bd7 hLd7 => ?_)
    wtm_at "ev_go"
    have num_lo : Num lo := num_of (by omega)
    have num_u : Num (1 + d7) := num_of (by omega)
    have num_w : Num (hi - lo) := num_of (by omega)
    have W0 : 0 ≤ (hi - lo) * (1 + d7) := Int.mul_nonneg (by omega) (by omega)
    have W1 : (hi - lo) * (1 + d7) ≤ 40 * 12 := Int.mul_le_mul (by omega) (by omega) (by omega) (by omega)
    intro l hl
    have nl := hl
    simp only [upd_none] at nl
    repeat obtain ⟨_, nl⟩ := nl
    wtm_at "ev_go"
    refine rd_draw (by wtm_at "ev_lk") hLd7 (by omega) (by omega) (lt2000 (by omega)) (fun d8 Ld8 ad8 bd8 hLd8 => ?_)
    wtm_at "ev_go"
    refine rd_draw (by wtm_at "ev_lk") hLd8 (by omega) (by omega) (lt2000 (by omega)) (fun d9 Ld9 ad9 bd9 hLd9 => ?_)
    wtm_at "ev_go"
    have U0 : 0 < 1 + d7 := by omega
    have U1 : 1 + d7 ≤ 12 := by omega
    generalize 1 + d7 = u at num_u W0 W1 U0 U1 bd8 ⊢
    have O0 : lo * u ≤ lo * u + d8 := by omega
    have O1 : lo * u + d8 ≤ hi * u := by
      rw [Int.sub_mul] at bd8
      omega
    have A1 := Int.mul_le_mul_of_nonneg_right clo.1 (show 0 ≤ u by omega)
    have A2 := Int.mul_le_mul_of_nonneg_right chi.2 (show 0 ≤ u by omega)
    generalize lo * u + d8 = o at O0 O1 ⊢
    have O2 : -20 * u ≤ o := by omega
    have O3 : o ≤ 20 * u := by omega
    have num_o : Num o := num_of (by omega)
    refine rd_forR (fun i σ' H' => ∃ (x8 x9 x10 x11 : Option V) (L' R : List V) (rs : List (Int × Int × Int)), σ' = [some (.ref p), some (.int wd), some (.int often), some (.int lo), some (.int hi), some (.int u), some (.ref l), some (.int o), x8, x9, x10, x11] ∧
      H' p = some (.lst L') ∧ PoolL L' (n + 9 + (i : Int) * 10) ∧ Fr p H H' ∧ H' l = some (.lst R) ∧ RlR H' R rs ∧ rs.length = i ∧ Within wd rs ∧ ∀ r ∈ rs, r.2.1 * u ≤ r.1 * o ∧ r.1 * o ≤ r.2.2 * u)
      ⟨_, _, _, _, Ld9, [], [], rfl, by wtm_at "ev_lk", hLd9.le (by omega), fun b o e nb => by wtm_at "ev_lk", by wtm_at "ev_lk", ⟨rfl, fun i v e => by simp at e⟩, rfl, fun r hr => (by cases hr), fun r hr => (by cases hr)⟩ ?_ ?_
    · rintro i σ' H' hlt ⟨x8, x9, x10, x11, L', R, rs, rfl, hp', hL', fr, hl', hR, hlen, hW, hSh⟩
      have hi90 : i < 90 := by omega
      wtm_at "ev_go"
      refine rd_draw (by wtm_at "ev_lk") hL' (by omega) (by omega) (lt2000 (by omega)) (fun e1 Le1 ae1 be1 hLe1 => ?_)
      have num_20 : Num 20 := num_of (by decide)
      have num_s : Num (1 + e1) := num_of (by omega)
      obtain ⟨t1, t2⟩ := times_in (s := 1 + e1) (by omega) (by omega) U0 O2 O3
      wtm_at "ev_go"
      refine rd_draw (by wtm_at "ev_lk") hLe1 (by omega) (by decide) (by decide +kernel) (fun e2 Le2 ae2 be2 hLe2 => ?_)
      wtm_at "ev_go"
      refine rd_draw (by wtm_at "ev_lk") hLe2 (by omega) (by omega) (lt2000 (by omega)) (fun e3 Le3 ae3 be3 hLe3 => ?_)
      wtm_at "ev_go"
      intro q3 hq3
      have nq3 := hq3
      simp only [upd_none] at nq3
      repeat obtain ⟨_, nq3⟩ := nq3
      wtm_at "ev_go"
      refine rd_draw (by wtm_at "ev_lk") hLe3 (by omega) (by decide) (by decide +kernel) (fun e4 Le4 ae4 be4 hLe4 => ?_)
      wtm_at "ev_go"
      obtain ⟨z7, m7, g7⟩ := at_intM (ns := [0, 0, e2, e3]) ae4 be4
      have c7 : 0 ≤ z7 := by
        simp only [List.mem_cons, List.not_mem_nil, or_false] at m7
        omega
      refine rd_ixL (SqL.of (by wtm_at "ev_lk")) g7 ?_
      wtm_at "ev_go"
      refine rd_draw (by wtm_at "ev_lk") hLe4 (by omega) (by decide) (by decide +kernel) (fun e5 Le5 ae5 be5 hLe5 => ?_)
      wtm_at "ev_go"
      refine rd_draw (by wtm_at "ev_lk") hLe5 (by omega) (by omega) (lt2000 (by omega)) (fun e6 Le6 ae6 be6 hLe6 => ?_)
      wtm_at "ev_go"
      intro q4 hq4
      have nq4 := hq4
      simp only [upd_none] at nq4
      repeat obtain ⟨_, nq4⟩ := nq4
      wtm_at "ev_go"
      refine rd_draw (by wtm_at "ev_lk") hLe6 (by omega) (by decide) (by decide +kernel) (fun e7 Le7 ae7 be7 hLe7 => ?_)
      wtm_at "ev_go"
      obtain ⟨z8, m8, g8⟩ := at_intM (ns := [0, 0, e5, e6]) ae7 be7
      have c8 : 0 ≤ z8 := by
        simp only [List.mem_cons, List.not_mem_nil, or_false] at m8
        omega
      refine rd_ixL (SqL.of (by wtm_at "ev_lk")) g8 ?_
      wtm_at "ev_go"
      obtain ⟨f1, f2, f3⟩ := floor_low U0 t1 t2 c7
      obtain ⟨j1, j2, j3⟩ := ceil_high U0 t1 t2 c8
      generalize (if (1 + e1) * o / u - z7 > -1000 then (1 + e1) * o / u - z7 else -1000) = few at f1 f2 f3 ⊢
      generalize (if 0 - (0 - (1 + e1) * o) / u + z8 < 1000 then 0 - (0 - (1 + e1) * o) / u + z8 else 1000) = more at j1 j2 j3 ⊢
      intro q5 hq5
      have nq5 := hq5
      simp only [upd_none] at nq5
      repeat obtain ⟨_, nq5⟩ := nq5
      wtm_at "ev_go"
      have hRl : R.length ≤ 100 := by rw [hR.1]; omega
      refine rd_append (by wtm_at "ev_lk") (by omega) ?_
      wtm_at "ev_go"
      have r1 := (hR.put (o := .lst Le3) hp').mono (Same.new (o := .lst [.int 0, .int 0, .int e2, .int e3]) hq3)
      have r2 := (r1.put (p := p) (o := .lst Le6) (xs := Le3) (by wtm_at "ev_lk")).mono (Same.new (o := .lst [.int 0, .int 0, .int e5, .int e6]) hq4)
      have r3 := (r2.put (p := p) (o := .lst Le7) (xs := Le6) (by wtm_at "ev_lk")).mono (Same.new (o := .tup [.int (1 + e1), .int few, .int more]) hq5)
      have r4 := (r3.add upd_same num_s (num_of (by omega)) (num_of (by omega))).put (p := l) (o := .lst (R ++ [.ref q5])) (xs := R) (by wtm_at "ev_lk")
      refine ⟨_, _, _, _, Le7, R ++ [.ref q5], rs ++ [(1 + e1, few, more)], rfl, by wtm_at "ev_lk", hLe7.le (by omega), fun b o e nb => ?_, by wtm_at "ev_lk", r4, by rw [List.length_append, hlen]; rfl, fun r hr => ?_, fun r hr => ?_⟩
      · have nbl : b ≠ l := ne_of_none e nl
        have hb := fr b o e nb
        wtm_at "ev_lk"
      · rcases List.mem_append.mp hr with hr | hr
        · exact hW r hr
        · rw [List.mem_singleton.mp hr]
          exact ⟨by omega, by omega, f2, f3, j2, j3⟩
      · rcases List.mem_append.mp hr with hr | hr
        · exact hSh r hr
        · rw [List.mem_singleton.mp hr]
          exact ⟨f1, j1⟩
    · rintro σ' H' ⟨x8, x9, x10, x11, L', R, rs, rfl, hp', hL', fr, hl', hR, hlen, hW, hSh⟩
      wtm_at "ev_go"
      intro kd hkd
      have sK : Same H' (upd H' kd (.tup [.int lo, .int hi, .ref l])) := Same.new hkd
      have nkp : kd ≠ p := (ne_of_none hp' hkd).symm
      have hH : H kd = none := by
        cases e : H kd with
        | none => rfl
        | some z =>
          have := fr _ _ e nkp
          rw [hkd] at this
          cases this
      exact k kd l L' R rs lo hi _ (fr.same sK) (sK _ _ hp') (hL'.le (by omega)) upd_same hH (sK _ _ hl') nl (ne_of_none hl' hkd).symm (hR.mono sK) (by omega) clo.1 chi.1 chi.2 hW ⟨o, u, U0, O0, O1, hSh⟩
end
end Ev

namespace Ev
open PySem PySem.Spec PyProof.Rows L2
local macro_rules | `(tactic| wtm_at "ev_ne") => `(tactic| first | assumption | exact Ne.symm (by assumption))
local macro_rules | `(tactic| wtm_at "ev_lk") => `(tactic| first | assumption | exact upd_same | (refine lk_new' (by assumption) ?_; wtm_at "ev_lk") | (refine lk_ne (by wtm_at "ev_ne") ?_; wtm_at "ev_lk") | (refine same_lk (by assumption) ?_; wtm_at "ev_lk"))
local macro_rules | `(tactic| wtm_at "ev_sm") => `(tactic| first | assumption | exact Same.refl _ | (refine same_new ?_ (by assumption); wtm_at "ev_sm") | (refine Same.trans ?_ (by assumption); wtm_at "ev_sm"))
local macro_rules | `(tactic| wtm_at "ev_no") => `(tactic| first | assumption | exact no_back (by assumption) | (refine no_new ?_ (by wtm_at "ev_ne"); wtm_at "ev_no"))
local macro_rules | `(tactic| wtm_at "ev_sq") => `(tactic| first | assumption | exact SqL.of (by wtm_at "ev_lk") | exact SqT.of (by wtm_at "ev_lk"))
local macro_rules | `(tactic| wtm_at "ev_step") => `(tactic| with_reducible first
  | refine rd_seq ?_ | refine rd_next ?_ | refine rd_ret ?_ | refine rd_retN ?_ | refine rd_if ?_ | refine rd_drop ?_ | refine rd_asg ?_ | refine rd_name ?_ | refine rd_gsub ?_ | refine rd_gnil ?_ | refine rd_gcons ?_
  | refine rd_c ?_ | refine rd_op ?_ | refine rd_un ?_ | refine rd_rI0 ?_ | refine rd_rU ?_ | refine rd_tup ?_ | refine rd_lst ?_ | refine rd_nil ?_ | refine rd_cons ?_ | refine rd_cb ?_ | refine rd_call ?_ | refine rd_sl ?_ | refine rd_no ?_ | refine rd_part ?_
  | refine rd_test ?_ | refine rd_tB ?_ | refine rd_not ?_ | refine rd_and ?_ | refine rd_or ?_ | refine rd_notV ?_ | refine rd_andV ?_ | refine rd_orV ?_ | refine rd_ifE ?_ | refine rd_bl ?_ | refine rd_ex ?_
  | refine rd_rng1 ?_ | refine rd_overL ?_ | refine rd_overT ?_ | refine rd_forA ?_ | refine rd_forB ?_ | refine rd_forC ?_ | refine rd_lcA ?_ | refine rd_lcB ?_ | refine rd_lcC ?_ | refine rd_bm ?_ | refine rd_mkv ?_ | refine rd_xv ?_
  | refine rd_T ?_ | refine rd_F ?_ | refine rd_True ?_ | refine rd_False ?_ | refine rd_int ?_ | refine rd_intB ?_ | refine rd_one ?_ | refine rd_two ?_)
local macro_rules | `(tactic| wtm_at "ev_cond") => `(tactic| first | assumption | exact (show (0 : Int) < _ by decide) | exact (show (0 : Int) < _ by omega) | exact Or.inl ⟨by decide, by decide⟩ | exact Or.inr ⟨by decide, by decide⟩ | exact pow_cond (by decide) (by decide) (by first | decide | omega) (by first | decide | omega) | exact wide_div (b := 2000) (by first | assumption | decide | omega) (by first | decide | omega) (by decide) (by decide))
local macro_rules | `(tactic| wtm_at "ev_side") => `(tactic| first
  | ((with_reducible apply rd_var); exact rfl)
  | ((with_reducible apply rd_ixL); (wtm_at "ev_sq"); exact rfl)
  | ((with_reducible apply rd_ixT); (wtm_at "ev_sq"); exact rfl)
  | ((with_reducible apply rd_eq); exact rfl)
  | ((with_reducible apply rd_ne); exact rfl)
  | ((with_reducible apply rd_setL); (wtm_at "ev_lk"); exact rfl)
  | ((with_reducible apply rd_gtup); (wtm_at "ev_sq"); exact rfl)
  | ((with_reducible apply rd_len); (wtm_at "ev_sq"))
  | ((with_reducible apply rd_lenT); (wtm_at "ev_sq"))
  | ((with_reducible apply rd_rg); (first | decide | omega); (first | decide | omega))
  | ((with_reducible apply rd_atL); (wtm_at "ev_sq"))
  | ((with_reducible apply rd_atT); (wtm_at "ev_sq"))
  | ((with_reducible apply rd_tyL); (wtm_at "ev_sq"))
  | ((with_reducible apply rd_cat); (wtm_at "ev_lk"); (wtm_at "ev_lk"); exact Nat.le_of_ble_eq_true rfl)
  | ((with_reducible apply rd_size); exact Nat.le_of_ble_eq_true rfl)
  | ((with_reducible apply rd_rI); wtm_at "ev_cond"))
local macro_rules | `(tactic| wtm_at "ev_rd") => `(tactic| repeat (first | wtm_at "ev_step" | wtm_at "ev_side"))
local macro_rules | `(tactic| wtm_at "ev_go") => `(tactic| ((try simp only [L2.start, List.map_cons, List.map_nil, List.length_cons, List.length_nil, Nat.reduceAdd, Nat.reduceSub, List.replicate_succ, List.replicate_zero, List.cons_append, List.nil_append]); wtm_at "ev_rd"; (try simp only [List.set_cons_zero, List.set_cons_succ, upd_upd])))
local macro_rules | `(tactic| wtm_at "ev_step") => `(tactic| with_reducible first | refine rd_par ?_ | refine rd_par2 ?_ | refine rd_forD ?_)
local macro_rules | `(tactic| wtm_at "ev_side") => `(tactic| ((with_reducible apply rd_enumL); (wtm_at "ev_sq")))
local macro_rules | `(tactic| wtm_at "ev_cond") => `(tactic| exact Num.mul (by assumption) (by assumption))

/-! ### the file bounds -/
theorem RlR.cons {H : Hp} {L : List V} {rs : List R3} {a : Addr} {w l m : Int} (h : RlR H L rs) (ha : H a = some (.tup [.int w, .int l, .int m])) (h1 : Num w) (h2 : Num l) (h3 : Num m) : RlR H (.ref a :: L) ((w, l, m) :: rs) := by
  refine ⟨by rw [List.length_cons, List.length_cons, h.1], fun i v e => ?_⟩
  cases i with
  | zero =>
    cases e
    exact ⟨a, (w, l, m), rfl, rfl, ha, h1, h2, h3⟩
  | succ i => exact h.2 i v e
theorem take_fold {α β : Type} {f : β → α → β} {b : β} {l : List α} {i : Nat} {r : α} (h : l[i]? = some r) : (l.take (i + 1)).foldl f b = f ((l.take i).foldl f b) r := by
  rw [List.take_add_one, h, List.foldl_append]
  rfl
def spIsRule : Sp := fun vs H Q _ => ∃ (a : Addr) (w l m : Int), vs = [.ref a] ∧ H a = some (.tup [.int w, .int l, .int m]) ∧ Q (.bl (decide (1 ≤ w) && decide (l ≤ m))) H
def spLow (K : PySem.W.Frag) : Sp := fun vs H Q _ => ∃ (b : Addr) (L : List V) (r0 : R3) (B : List R3), vs = [.ref b] ∧ SqL K H b L ∧ RlR H L (r0 :: B) ∧ ∀ p : Addr, H p = none → Num (lowM r0 B).1 → Num (lowM r0 B).2 → Q (.ref p) (upd H p (.tup [.int (lowM r0 B).1, .int (lowM r0 B).2]))
def spHigh (K : PySem.W.Frag) : Sp := fun vs H Q _ => ∃ (b : Addr) (L : List V) (r0 : R3) (B : List R3), vs = [.ref b] ∧ SqL K H b L ∧ RlR H L (r0 :: B) ∧ ∀ p : Addr, H p = none → Num (highM r0 B).1 → Num (highM r0 B).2 → Q (.ref p) (upd H p (.tup [.int (highM r0 B).1, .int (highM r0 B).2]))
def spExc (K : PySem.W.Frag) : Sp := fun vs H Q _ => ∃ (b : Addr) (L : List V) (B : List R3) (w l : Int), vs = [.ref b, .int w, .int l] ∧ SqL K H b L ∧ RlR H L B ∧ Num w ∧ Num l ∧
  ∀ (v : V) (H' : Hp), Same H H' → ((v = .non ∧ ∀ s ∈ B, l * s.1 ≤ s.2.2 * w) ∨ ∃ (j : Nat) (s : R3), v = .int j ∧ B[j]? = some s ∧ s.2.2 * w < l * s.1 ∧ ∀ (j' : Nat) s', j' < j → B[j']? = some s' → l * s'.1 ≤ s'.2.2 * w) → Q v H'
/-- what conflict tells -/
def ConfV (B : List R3) (v : V) (H : Hp) : Prop := (v = .non ∧ NoConf B) ∨ ∃ (p : Addr) (i j : Nat), v = .ref p ∧ H p = some (.tup [.int i, .int j]) ∧ FirstConf B i j
theorem ConfV.mono {B : List R3} {v : V} {H H' : Hp} (h : ConfV B v H) (s : Same H H') : ConfV B v H' := by
  rcases h with h | ⟨p, i, j, rfl, e, f⟩
  · exact .inl h
  · exact .inr ⟨p, i, j, rfl, s _ _ e, f⟩
theorem ConfV.put {B : List R3} {v : V} {H : Hp} {p : Addr} {xs : List V} {o : HO} (h : ConfV B v H) (hp : H p = some (.lst xs)) : ConfV B v (upd H p o) := by
  rcases h with h | ⟨q, i, j, rfl, e, f⟩
  · exact .inl h
  · exact .inr ⟨q, i, j, rfl, lk_ne (ne_of e hp (fun z => by cases z)) e, f⟩
def spConf (K : PySem.W.Frag) : Sp := fun vs H Q _ => ∃ (b : Addr) (L : List V) (r0 : R3) (B : List R3), vs = [.ref b] ∧ SqL K H b L ∧ RlR H L (r0 :: B) ∧ Wide1 (r0 :: B) ∧ ∀ (v : V) (H' : Hp), Same H H' → ConfV (r0 :: B) v H' → Q v H'
section
variable {P : Program} {w : World} {K : PySem.W.Frag} {mg : Str → Option Value} {base : Heap}
theorem ok_is_rule {f : Addr} {fd : FuncData} (F : Fun K "is_rule" "is_rule" s_is_rule f fd) : FnOk P w K mg base CX0 1 f fd ["rule"] spIsRule := by
  refine F.ok sc_is_rule (fun vs H Q E h => ?_) (fun cdv A outer s H vs Q E hr h => ?_)
  · obtain ⟨a, w, l, m, rfl, _⟩ := h
    rfl
  · obtain ⟨a, w, l, m, rfl, ha, k⟩ := h
    refine ⟨_, (pss_cons (ps_asg (pv 0) (pg_tup rfl (pgs_cons (pg_name (i := 1) sc_is_rule.nd rfl (Or.inl rfl)) (pgs_cons (pg_name (i := 2) sc_is_rule.nd rfl (Or.inl rfl)) (pgs_cons (pg_name (i := 3) sc_is_rule.nd rfl (Or.inl rfl)) pgs_nil)))))
      (pss_one (ps_ret (pe_and (pe_cmpR op_ge (pv 1) pe_int (nomark _)) (pe_one (pe_cmpR op_le (pv 2) (pv 3) (nomark _))))))), ?_⟩
    wtm_at "ev_go"
    refine rd_ite (fun h1 => ?_) (fun h1 => ?_)
    · rw [decide_eq_true h1, Bool.true_and] at k
      wtm_at "ev_go"
      exact k
    · rw [decide_eq_false h1, Bool.false_and] at k
      exact k
theorem ok_lowest {f : Addr} {fd : FuncData} (F : Fun K "lowest_most" "lowest_most" s_lowest_most f fd) (T : Blt mg) : FnOk P w K mg base CX0 1 f fd ["bounds"] (spLow K) := by
  refine F.ok sc_lowest_most (fun vs H Q E h => ?_) (fun cdv A outer s H vs Q E hr h => ?_)
  · obtain ⟨b, L, r0, B, rfl, _⟩ := h
    rfl
  · obtain ⟨b, L, r0, B, rfl, hb, hR, k⟩ := h
    obtain ⟨x0, L0, rfl⟩ : ∃ x L0, L = x :: L0 := by
      cases L with
      | nil => cases hR.1
      | cons x L0 => exact ⟨x, L0, rfl⟩
    obtain ⟨a0, r0', rfl, e0, h0, nw, nl, nm⟩ := hR.2 0 _ rfl
    cases e0
    refine ⟨_, (pss_cons (ps_asg (pe_ix ix_list (pv 0) pe_int (fun _ _ => rfl)) (pg_tup rfl (pgs_cons (pg_name (i := 1) sc_lowest_most.nd rfl (Or.inl rfl)) (pgs_cons (pg_name (i := 2) sc_lowest_most.nd rfl (Or.inl rfl)) (pgs_cons (pg_name (i := 3) sc_lowest_most.nd rfl (Or.inl rfl)) pgs_nil)))))
      (pss_cons (ps_for PassesOwn.never rfl (pi_list (pv 0)) (pg_tup rfl (pgs_cons (pg_name (i := 4) sc_lowest_most.nd rfl (Or.inl rfl)) (pgs_cons (pg_name (i := 2) sc_lowest_most.nd rfl (Or.inl rfl)) (pgs_cons (pg_name (i := 5) sc_lowest_most.nd rfl (Or.inl rfl)) pgs_nil)))) 
        (pss_one (ps_if (pt_cmpR op_lt (pe_op op_mulW (pv 5) (pv 1)) (pe_op op_mulW (pv 3) (pv 4)) (nomark _)) 
          (pss_one (ps_par (i := 1) (j := 3) (by rfl) sc_lowest_most.nd rfl rfl (by decide) rfl rfl (pa_cons (pv 4) (pa_cons (pv 5) pa_nil)) (by rfl))) pss_nil)))
      (pss_one (ps_ret (pe_tup (pa_cons (pv 3) (pa_cons (pv 1) pa_nil))))))), ?_⟩
    wtm_at "ev_go"
    refine rd_ixL hb (atI_nat (j := 0) rfl) ?_
    wtm_at "ev_go"
    refine rd_forL (fun i σ' H' => ∃ (x2 x4 x5 : Option V) (bw bm : Int), σ' = [some (.ref b), some (.int bw), x2, some (.int bm), x4, x5] ∧ H' = H ∧ Num bw ∧ Num bm ∧ (bm, bw) = ((r0 :: B).take i).foldl lowStep (r0.2.2, r0.1)) ⟨_, _, _, _, _, rfl, rfl, nw, nm, rfl⟩ (fun i σ' H' _ h => by obtain ⟨_, _, _, _, _, _, rfl, _⟩ := h; exact hb) ?_ ?_
    · rintro i x σ' H' hx ⟨x2, x4, x5, bw, bm, rfl, rfl, nbw, nbm, st⟩
      obtain ⟨a, r, rfl, er, ha, nw', nl', nm'⟩ := hR.2 i x hx
      have st' := take_fold (f := lowStep) (b := (r0.2.2, r0.1)) er
      rw [← st] at st'
      wtm_at "ev_go"
      refine rd_ite (fun c => ?_) (fun c => ?_)
      · wtm_at "ev_go"
        refine ⟨_, _, _, _, _, rfl, trivial, nw', nm', ?_⟩
        rw [st']
        unfold lowStep
        rw [if_pos c]
      · wtm_at "ev_go"
        refine ⟨_, _, _, _, _, rfl, trivial, nbw, nbm, ?_⟩
        rw [st']
        unfold lowStep
        rw [if_neg c]
    · rintro σ' H' ⟨x2, x4, x5, bw, bm, rfl, rfl, nbw, nbm, st⟩
      rw [hR.1, List.take_length] at st
      have e : lowM r0 B = (bm, bw) := st.symm
      rw [e] at k
      wtm_at "ev_go"
      exact fun p hp => k p hp nbm nbw
theorem ok_exceeded {f : Addr} {fd : FuncData} (F : Fun K "first_exceeded" "first_exceeded" s_first_exceeded f fd) (T : Blt mg) : FnOk P w K mg base CX0 1 f fd ["bounds", "width", "least"] (spExc K) := by
  refine F.ok sc_first_exceeded (fun vs H Q E h => ?_) (fun cdv A outer s H vs Q E hr h => ?_)
  · obtain ⟨b, L, B, w, l, rfl, _⟩ := h
    rfl
  · obtain ⟨b, L, B, w, l, rfl, hb, hR, nw, nl, k⟩ := h
    refine ⟨_, (pss_cons (ps_for PassesOwn.never rfl (pi_enum (by rfl) T.n_enumerate (pa_cons (pv 0) pa_nil)) (pg_tup rfl (pgs_cons (pg_name (i := 3) sc_first_exceeded.nd rfl (Or.inl rfl)) (pgs_cons (pg_tup rfl (pgs_cons (pg_name (i := 4) sc_first_exceeded.nd rfl (Or.inl rfl)) (pgs_cons (pg_name (i := 5) sc_first_exceeded.nd rfl (Or.inl rfl)) (pgs_cons (pg_name (i := 6) sc_first_exceeded.nd rfl (Or.inl rfl)) pgs_nil)))) pgs_nil))) 
        (pss_one (ps_if (pt_cmpR op_gt (pe_op op_mulW (pv 2) (pv 4)) (pe_op op_mulW (pv 6) (pv 1)) (nomark _)) 
          (pss_one (ps_ret (pv 3))) pss_nil)))
      (pss_one (ps_ret pe_non))), ?_⟩
    wtm_at "ev_go"
    refine rd_forE (fun i σ' H' => ∃ (x3 x4 x5 x6 : Option V), σ' = [some (.ref b), some (.int w), some (.int l), x3, x4, x5, x6] ∧ Same H H' ∧ ∀ (j : Nat) s, j < i → B[j]? = some s → l * s.1 ≤ s.2.2 * w) ⟨_, _, _, _, rfl, Same.refl _, fun j _ hj => absurd hj (Nat.not_lt_zero _)⟩ (fun i σ' H' _ h => by obtain ⟨_, _, _, _, _, z, _⟩ := h; exact sqL_same hb z) ?_ ?_
    · rintro i x σ' H' p hx ⟨x3, x4, x5, x6, rfl, sm, al⟩ hp
      have sm2 := sm.trans (Same.new (o := .tup [.int i, x]) hp)
      obtain ⟨a, r, rfl, er, ha, nw', nl', nm'⟩ := (hR.mono sm2).2 i x hx
      wtm_at "ev_go"
      refine rd_ite (fun c => ?_) (fun c => ?_)
      · wtm_at "ev_go"
        exact k _ _ sm2 (.inr ⟨i, r, rfl, er, c, al⟩)
      · wtm_at "ev_go"
        refine ⟨_, _, _, _, rfl, sm2, fun j s hj e => ?_⟩
        rcases Nat.lt_succ_iff_lt_or_eq.mp hj with h | rfl
        · exact al j s h e
        · rw [er] at e
          cases e
          omega
    · rintro σ' H' ⟨x3, x4, x5, x6, rfl, sm, al⟩
      wtm_at "ev_go"
      refine k _ _ sm (.inl ⟨rfl, fun s hs => ?_⟩)
      obtain ⟨j, hj⟩ := List.getElem?_of_mem hs
      exact al j s (by rw [hR.1]; exact (List.getElem?_eq_some_iff.mp hj).1) hj
theorem ok_conflict {f : Addr} {fd : FuncData} (F : Fun K "first_conflict" "first_conflict" s_first_conflict f fd) (T : Blt mg) (GL : CalN P w K mg base 1 "lowest_most" (spLow K)) (GE : CalN P w K mg base 1 "first_exceeded" (spExc K)) : FnOk P w K mg base CX0 2 f fd ["bounds"] (spConf K) := by
  refine F.ok sc_first_conflict (fun vs H Q E h => ?_) (fun cdv A outer s H vs Q E hr h => ?_)
  · obtain ⟨b, L, r0, B, rfl, _⟩ := h
    rfl
  · obtain ⟨b, L, r0, B, rfl, hb, hR, hW, k⟩ := h
    have isl := low_is r0 B hW
    refine ⟨_, (pss_cons (ps_asg (pe_cN GL hr (by decide) (by rfl) (pa_cons (pv 0) pa_nil)) (pg_tup rfl (pgs_cons (pg_name (i := 1) sc_first_conflict.nd rfl (Or.inl rfl)) (pgs_cons (pg_name (i := 2) sc_first_conflict.nd rfl (Or.inl rfl)) pgs_nil))))
      (pss_cons (ps_for PassesOwn.never rfl (pi_enum (by rfl) T.n_enumerate (pa_cons (pv 0) pa_nil)) (pg_tup rfl (pgs_cons (pg_name (i := 3) sc_first_conflict.nd rfl (Or.inl rfl)) (pgs_cons (pg_tup rfl (pgs_cons (pg_name (i := 4) sc_first_conflict.nd rfl (Or.inl rfl)) (pgs_cons (pg_name (i := 5) sc_first_conflict.nd rfl (Or.inl rfl)) (pgs_cons (pg_name (i := 6) sc_first_conflict.nd rfl (Or.inl rfl)) pgs_nil)))) pgs_nil))) 
        (pss_one (ps_if (pt_cmpR op_gt (pe_op op_mulW (pv 5) (pv 2)) (pe_op op_mulW (pv 1) (pv 4)) (nomark _)) 
          (pss_one (ps_ret (pe_tup (pa_cons (pv 3) (pa_cons (pe_cN GE hr (by decide) (by rfl) (pa_cons (pv 0) (pa_cons (pv 4) (pa_cons (pv 5) pa_nil)))) pa_nil))))) pss_nil)))
      (pss_one (ps_ret pe_non)))), ?_⟩
    wtm_at "ev_go"
    refine ⟨b, L, r0, B, rfl, hb, hR, fun p hp nx ny => ?_⟩
    generalize lowM r0 B = lm at isl nx ny ⊢
    wtm_at "ev_go"
    have s0 : Same H (upd H p (.tup [.int lm.1, .int lm.2])) := Same.new hp
    refine rd_enumL (sqL_same hb s0) ?_
    refine rd_forE (fun i σ' H' => ∃ (x3 x4 x5 x6 : Option V), σ' = [some (.ref b), some (.int lm.1), some (.int lm.2), x3, x4, x5, x6] ∧ Same H H' ∧ ∀ (j : Nat) r, j < i → (r0 :: B)[j]? = some r → r.2.1 * lm.2 ≤ lm.1 * r.1) ⟨_, _, _, _, rfl, s0, fun j _ hj => absurd hj (Nat.not_lt_zero _)⟩ (fun i σ' H' _ h => by obtain ⟨_, _, _, _, _, z, _⟩ := h; exact sqL_same hb z) ?_ ?_
    · rintro i v σ' H' p hx ⟨x3, x4, x5, x6, rfl, sm, al⟩ hp
      have sm2 := sm.trans (Same.new (o := .tup [.int i, v]) hp)
      obtain ⟨a, r, rfl, er, ha, nw', nl', nm'⟩ := (hR.mono sm2).2 i v hx
      wtm_at "ev_go"
      refine rd_ite (fun c => ?_) (fun c => ?_)
      · wtm_at "ev_go"
        refine ⟨b, L, r0 :: B, r.1, r.2.1, rfl, sqL_same hb sm2, hR.mono sm2, nw', nl', fun v H3 s3 hv => ?_⟩
        wtm_at "ev_go"
        intro q hq
        rcases hv with ⟨_, hn⟩ | ⟨j, s, rfl, es, cs, als⟩
        · obtain ⟨s, hs, z⟩ := low_stop isl c
          have := hn s hs
          omega
        · refine k _ _ ((sm2.trans s3).trans (Same.new hq)) (.inr ⟨q, i, j, rfl, upd_same, r, s, er, es, cs, fun i' r' hi e => ?_, als⟩)
          exact low_pass hW isl (hW r' (List.mem_of_getElem? e)) (al i' r' hi e)
      · wtm_at "ev_go"
        refine ⟨_, _, _, _, rfl, sm2, fun j s hj e => ?_⟩
        rcases Nat.lt_succ_iff_lt_or_eq.mp hj with h | rfl
        · exact al j s h e
        · rw [er] at e
          cases e
          omega
    · rintro σ' H' ⟨x3, x4, x5, x6, rfl, sm, al⟩
      wtm_at "ev_go"
      refine k _ _ sm (.inl ⟨rfl, fun r hr => ?_⟩)
      obtain ⟨j, hj⟩ := List.getElem?_of_mem hr
      exact low_pass hW isl (hW r hr) (al j r (by rw [hR.1]; exact (List.getElem?_eq_some_iff.mp hj).1) hj)
theorem ok_highest {f : Addr} {fd : FuncData} (F : Fun K "highest_least" "highest_least" s_highest_least f fd) (T : Blt mg) : FnOk P w K mg base CX0 1 f fd ["bounds"] (spHigh K) := by
  refine F.ok sc_highest_least (fun vs H Q E h => ?_) (fun cdv A outer s H vs Q E hr h => ?_)
  · obtain ⟨b, L, r0, B, rfl, _⟩ := h
    rfl
  · obtain ⟨b, L, r0, B, rfl, hb, hR, k⟩ := h
    obtain ⟨x0, L0, rfl⟩ : ∃ x L0, L = x :: L0 := by
      cases L with
      | nil => cases hR.1
      | cons x L0 => exact ⟨x, L0, rfl⟩
    obtain ⟨a0, r0', rfl, e0, h0, nw, nl, nm⟩ := hR.2 0 _ rfl
    cases e0
    refine ⟨_, (pss_cons (ps_asg (pe_ix ix_list (pv 0) pe_int (fun _ _ => rfl)) (pg_tup rfl (pgs_cons (pg_name (i := 1) sc_highest_least.nd rfl (Or.inl rfl)) (pgs_cons (pg_name (i := 2) sc_highest_least.nd rfl (Or.inl rfl)) (pgs_cons (pg_name (i := 3) sc_highest_least.nd rfl (Or.inl rfl)) pgs_nil)))))
      (pss_cons (ps_for PassesOwn.never rfl (pi_list (pv 0)) (pg_tup rfl (pgs_cons (pg_name (i := 4) sc_highest_least.nd rfl (Or.inl rfl)) (pgs_cons (pg_name (i := 5) sc_highest_least.nd rfl (Or.inl rfl)) (pgs_cons (pg_name (i := 3) sc_highest_least.nd rfl (Or.inl rfl)) pgs_nil)))) 
        (pss_one (ps_if (pt_cmpR op_gt (pe_op op_mulW (pv 5) (pv 1)) (pe_op op_mulW (pv 2) (pv 4)) (nomark _)) 
          (pss_one (ps_par (i := 1) (j := 2) (by rfl) sc_highest_least.nd rfl rfl (by decide) rfl rfl (pa_cons (pv 4) (pa_cons (pv 5) pa_nil)) (by rfl))) pss_nil)))
      (pss_one (ps_ret (pe_tup (pa_cons (pv 2) (pa_cons (pv 1) pa_nil))))))), ?_⟩
    wtm_at "ev_go"
    refine rd_ixL hb (atI_nat (j := 0) rfl) ?_
    wtm_at "ev_go"
    refine rd_forL (fun i σ' H' => ∃ (x3 x4 x5 : Option V) (bw bl : Int), σ' = [some (.ref b), some (.int bw), some (.int bl), x3, x4, x5] ∧ H' = H ∧ Num bw ∧ Num bl ∧ (bl, bw) = ((r0 :: B).take i).foldl highStep (r0.2.1, r0.1)) ⟨_, _, _, _, _, rfl, rfl, nw, nl, rfl⟩ (fun i σ' H' _ h => by obtain ⟨_, _, _, _, _, _, rfl, _⟩ := h; exact hb) ?_ ?_
    · rintro i x σ' H' hx ⟨x3, x4, x5, bw, bl, rfl, rfl, nbw, nbl, st⟩
      obtain ⟨a, r, rfl, er, ha, nw', nl', nm'⟩ := hR.2 i x hx
      have st' := take_fold (f := highStep) (b := (r0.2.1, r0.1)) er
      rw [← st] at st'
      wtm_at "ev_go"
      refine rd_ite (fun c => ?_) (fun c => ?_)
      · wtm_at "ev_go"
        refine ⟨_, _, _, _, _, rfl, trivial, nw', nl', ?_⟩
        rw [st']
        unfold highStep
        rw [if_pos c]
      · wtm_at "ev_go"
        refine ⟨_, _, _, _, _, rfl, trivial, nbw, nbl, ?_⟩
        rw [st']
        unfold highStep
        rw [if_neg c]
    · rintro σ' H' ⟨x3, x4, x5, bw, bl, rfl, rfl, nbw, nbl, st⟩
      rw [hR.1, List.take_length] at st
      have e : highM r0 B = (bl, bw) := st.symm
      rw [e] at k
      wtm_at "ev_go"
      exact fun p hp => k p hp nbl nbw
end
/-! ### the file books -/
structure TxB (K : PySem.W.Frag) (mg : Str → Option Value) (fI cD cR cB fB fN : Addr) : Prop where
  b : Blt mg
  xD : ExT K mg "InvalidDays" cD fI
  xR : ExT K mg "InvalidRule" cR fI
  cls : Cls K cB
  n1 : NoAttr K cB "_low"
  n2 : NoAttr K cB "_high"
  n3 : NoAttr K cB "_rules"
  n4 : NoAttr K cB "_conflict"
  n5 : NoAttr K cB "_sums"
  n6 : NoAttr K cB "_spots"
  mB : Meth K cB "bounds" fB
  mB2 : Mk K cB fN
  gB : mg "Book" = some (.ref cB)

section
variable {K : PySem.W.Frag} {mg : Str → Option Value} {σ : L2.St} {H : Hp} {a C dx fI : Addr} {fs : List (Str × V)} {f x : Str} {v : V} {te tv : TE} {D : Ends}
theorem rd_fld {Q : VK} (h : te σ H fun x H1 => ∃ a C dx fs v, x = .ref a ∧ H1 a = some (.ins C dx fs) ∧ Cls K C ∧ NoAttr K C f ∧ fs.lookup f = some v ∧ Q v H1) : tFld K te f σ H Q := h
theorem rd_fldA {Q : V → Prop} (h : H a = some (.ins C dx fs)) (c : Cls K C) (n : NoAttr K C f) (l : fs.lookup f = some v) (q : Q v) : ∃ a' C dx fs v, V.ref a = .ref a' ∧ H a' = some (.ins C dx fs) ∧ Cls K C ∧ NoAttr K C f ∧ fs.lookup f = some v ∧ Q v := ⟨a, C, dx, fs, v, rfl, h, c, n, l, q⟩
theorem rd_sfld (h : tv σ H fun y H1 => te σ H1 fun x H2 => ∃ a C dx fs, x = .ref a ∧ H2 a = some (.ins C dx fs) ∧ Cls K C ∧ NoAttr K C f ∧ fs.length < 1000 ∧ D.nx σ (upd H2 a (.ins C dx (putF f y fs)))) : sFld K te tv f D σ H := h
theorem rd_sfldA {A : Addr → Addr → Addr → List (Str × V) → Prop} (h : H a = some (.ins C dx fs)) (c : Cls K C) (n : NoAttr K C f) (l : fs.length < 1000) (q : A a C dx fs) : ∃ a' C dx fs, V.ref a = .ref a' ∧ H a' = some (.ins C dx fs) ∧ Cls K C ∧ NoAttr K C f ∧ fs.length < 1000 ∧ A a' C dx fs := ⟨a, C, dx, fs, rfl, h, c, n, l, q⟩
theorem lk_put {g : Str} (h : ¬ g = f) : (putF f v fs).lookup g = fs.lookup g := by rw [lookup_putF, if_neg h]
theorem lk_put0 : (putF f v fs).lookup f = some v := by rw [lookup_putF, if_pos rfl]
theorem len_put : ∀ fs : List (Str × V), (putF f v fs).length ≤ fs.length + 1
  | [] => Nat.le_refl _
  | (g, x) :: r => by
    show (if g = f then (g, v) :: r else (g, x) :: putF f v r).length ≤ _
    by_cases e : g = f
    · rw [if_pos e, List.length_cons, List.length_cons]
      omega
    · rw [if_neg e, List.length_cons, List.length_cons]
      have := len_put r
      omega
theorem len_put' {n : Nat} (h : fs.length ≤ n) : (putF f v fs).length ≤ n + 1 := Nat.le_trans (len_put fs) (by omega)
theorem len_nil : ([] : List (Str × V)).length ≤ 0 := Nat.le_refl _
/-- raise C(v), C an own error: what stands behind it -/
theorem rd_mko {Q : XK} (T : ExT K mg x C fI) (q : ∀ d H', Same H H' → H' d = some (.xd [(("value" : Str), v)]) → Q (.ref C) (some d) H') :
    [v].length ≤ 1000 ∧ ∀ a, H a = none → spInit K (.ref a :: ([v] ++ [])) (upd H a (exo a C none)) (fun u H2 => u = .non ∧ ∃ (d : Addr) (fs : List (Str × V)), H2 a = some (exo a C (some d)) ∧ H2 d = some (exd d fs) ∧ H d = none ∧ Q (.ref C) (some d) (upd (del H2 a) d (.xd fs))) (fun _ _ _ => False) := by
  refine ⟨Nat.le_of_ble_eq_true rfl, fun a ha => ⟨a, C, v, rfl, upd_same, T.c, T.n, fun d hd ne => ⟨rfl, d, _, upd_same, by rw [upd_ne ne]; exact upd_same, ?_, q d _ (fun b o e => ?_) upd_same⟩⟩⟩
  · rw [upd_ne ne] at hd
    exact hd
  · have h1 : b ≠ a := ne_of_none e ha
    have h2 : b ≠ d := ne_of_none (lk_new e ha) hd
    rw [upd_ne h2, del_ne h1, upd_ne h1, upd_ne h2, upd_ne h1]
    exact e
theorem rd_raise {t : L2.St → Hp → XK → Prop} {W : WX} (h : t σ H fun cls d H' => W cls d σ H') : (fun (_ : Ends) σ H => t σ H fun cls d H' => W cls d σ H') D σ H := h
theorem rd_tmko {sp : Sp} {dvs : List V} {ta : TA} {Q : XK} (h : ta σ H fun vs H1 => vs.length ≤ 1000 ∧ ∀ a, H1 a = none → sp (.ref a :: (vs ++ dvs)) (upd H1 a (exo a C none))
  (fun v H2 => v = .non ∧ ∃ (d : Addr) (fs : List (Str × V)), H2 a = some (exo a C (some d)) ∧ H2 d = some (exd d fs) ∧ H1 d = none ∧ Q (.ref C) (some d) (upd (del H2 a) d (.xd fs))) (fun _ _ _ => False)) : tMkO C sp dvs ta σ H Q := h
theorem rd_meth0 {m : Str} {sp : Sp} {dvs : List V} {E : XK} {t : TA} {Q : VK} (h : te σ H fun x H1 => ∃ a dx fs, x = .ref a ∧ H1 a = some (.ins C dx fs) ∧ fs.lookup m = none ∧ t σ H1 fun vs H2 => sp (x :: (vs ++ dvs)) H2 Q E) : tMeth C m sp dvs E te t σ H Q := h
theorem rd_make {sp : Sp} {dvs : List V} {E : XK} {t : TA} {Q : VK} (h : t σ H fun vs H1 => ∀ x dx, H1 x = none → H1 dx = none → dx ≠ x → sp (.ref x :: (vs ++ dvs)) (upd (upd H1 dx (.own x)) x (.ins C dx [])) (fun v H2 => v = .non ∧ Q (.ref x) H2) E) : tMake C sp dvs E t σ H Q := h
theorem rd_prop {sp : Sp} {dvs : List V} {E : XK} {ta : TE} {Q : VK} (h : ta σ H fun x H1 => ∃ a dx fs, x = .ref a ∧ H1 a = some (.ins C dx fs) ∧ sp (.ref a :: dvs) H1 Q E) : tProp C sp dvs E ta σ H Q := h
theorem rd_cut {t u : TS} {D : Ends} (M : L2.St → Hp → Prop) (h1 : t { D with nx := M } σ H) (h2 : ∀ σ' H', M σ' H' → u D σ' H') : C8.tCut t u D σ H := ⟨M, h1, h2⟩
end
local macro_rules | `(tactic| wtm_at "ev_step") => `(tactic| with_reducible first | refine rd_fld ?_ | refine rd_sfld ?_ | refine rd_tmko ?_ | refine rd_meth0 ?_ | refine rd_make ?_ | refine rd_prop ?_ | refine rd_callK0 ?_)

/-- the first wrong rule -/
def Bad (rs : List R3) (i : Nat) : Prop := ∃ r, rs[i]? = some r ∧ okR r = false ∧ ∀ (j : Nat) r', j < i → rs[j]? = some r' → okR r' = true
def Fine (rs : List R3) : Prop := ∀ (j : Nat) r', rs[j]? = some r' → okR r' = true
theorem Fine.wide {rs : List R3} {lo hi : Int} (h : Fine rs) : Wide1 ((1, lo, hi) :: rs) := fun r hr => by
  rcases List.mem_cons.mp hr with rfl | hr
  · exact Int.le_refl _
  · obtain ⟨j, hj⟩ := List.getElem?_of_mem hr
    have := h j r hj
    unfold okR at this
    exact of_decide_eq_true (Bool.and_eq_true_iff.mp this).1
def spBnd (C : Addr) : Sp := fun vs H Q _ => ∃ (a dx r : Addr) (fs : List (Str × V)) (lo hi : Int) (L : List V) (rs : List R3), vs = [.ref a] ∧ H a = some (.ins C dx fs) ∧ fs.lookup ("_low" : Str) = some (.int lo) ∧ fs.lookup ("_high" : Str) = some (.int hi) ∧ fs.lookup ("_rules" : Str) = some (.ref r) ∧ H r = some (.lst L) ∧ RlR H L rs ∧ L.length ≤ 1000 ∧ Num lo ∧ Num hi ∧
  ∀ (p : Addr) (L' : List V) (H' : Hp), Same H H' → H' p = some (.lst L') → RlR H' L' ((1, lo, hi) :: rs) → Q (.ref p) H'
def bookField (m : Str) : Bool := m == ("_low" : Str) || m == ("_high" : Str) || m == ("_rules" : Str) || m == ("_conflict" : Str) || m == ("_sums" : Str) || m == ("_spots" : Str)
/-- at a: a book with these numbers, its rules those of L in a list of its own -/
def BookAt (C : Addr) (H : Hp) (a : Addr) (lo hi : Int) (L : List V) (rs : List R3) : Prop := ∃ (dx l : Addr) (fs : List (Str × V)) (v : V), H a = some (.ins C dx fs) ∧ H l = some (.lst L) ∧ fs.lookup ("_low" : Str) = some (.int lo) ∧ fs.lookup ("_high" : Str) = some (.int hi) ∧ fs.lookup ("_rules" : Str) = some (.ref l) ∧
  fs.lookup ("_conflict" : Str) = some v ∧ ConfV ((1, lo, hi) :: rs) v H ∧ RlR H L rs ∧ ∀ m : Str, bookField m = false → fs.lookup m = none
theorem BookAt.mono {C a : Addr} {H H' : Hp} {lo hi : Int} {L : List V} {rs : List R3} (h : BookAt C H a lo hi L rs) (s : Same H H') : BookAt C H' a lo hi L rs := by
  obtain ⟨dx, l, fs, v, h1, h2, q1, q2, q3, q4, q5, q6, r⟩ := h
  exact ⟨dx, l, fs, v, s _ _ h1, s _ _ h2, q1, q2, q3, q4, q5.mono s, q6.mono s, r⟩
theorem BookAt.put {C a p : Addr} {H : Hp} {lo hi n : Int} {L Lp : List V} {rs : List R3} {o : HO} (h : BookAt C H a lo hi L rs) (hp : H p = some (.lst Lp)) (hL : PoolL Lp n) : BookAt C (upd H p o) a lo hi L rs := by
  obtain ⟨dx, l, fs, v, h1, h2, q1, q2, q3, q4, q5, q6, r⟩ := h
  refine ⟨dx, l, fs, v, lk_ne (ne_of h1 hp (fun z => by cases z)) h1, lk_ne (fun e => ?_) h2, q1, q2, q3, q4, q5.put hp, q6.put hp, r⟩
  subst e
  rw [h2] at hp
  cases hp
  obtain ⟨z, m, c, rfl, _⟩ := hL
  obtain ⟨b, r', e, _⟩ := q6.2 0 _ rfl
  cases e
def spBook (C cD cR : Addr) : Sp := fun vs H Q E => ∃ (a dx r : Addr) (lo hi : Int) (L : List V) (rs : List R3), vs = [.ref a, .int lo, .int hi, .ref r] ∧ H a = some (.ins C dx []) ∧ H r = some (.lst L) ∧ RlR H L rs ∧ L.length ≤ 1000 ∧ Num lo ∧ Num hi ∧
  (hi < lo → ∀ (d t : Addr) (H' : Hp), Same H H' → H' d = some (.xd [(("value" : Str), .ref t)]) → H' t = some (.tup [.int lo, .int hi]) → E (.ref cD) (some d) H') ∧
  (lo ≤ hi → ∀ (i : Nat) (d : Addr) (H' : Hp), Bad rs i → Same H H' → H' d = some (.xd [(("value" : Str), .int i)]) → E (.ref cR) (some d) H') ∧
  (lo ≤ hi → Fine rs → ∀ H', Fr a H H' → BookAt C H' a lo hi L rs → Q .non H')
theorem bookF_none {a b c d e f : V} {m : Str} (h : bookField m = false) : (putF "_spots" f (putF "_sums" e (putF "_conflict" d (putF "_rules" c (putF "_high" b (putF "_low" a [])))))).lookup m = none := by
  unfold bookField at h
  simp only [Bool.or_eq_false_iff, beq_eq_false_iff_ne] at h
  obtain ⟨⟨⟨⟨⟨h1, h2⟩, h3⟩, h4⟩, h5⟩, h6⟩ := h
  rw [lk_put h6, lk_put h5, lk_put h4, lk_put h3, lk_put h2, lk_put h1]
  rfl
section
variable {P : Program} {w : World} {K : PySem.W.Frag} {mg : Str → Option Value} {base : Heap} {fI cD cR cB fB fN : Addr}
theorem ok_bounds {f : Addr} {fd : FuncData} (F : Fun K "bounds" "Book.bounds" s_Book_bounds f fd) (T : TxB K mg fI cD cR cB fB fN) : FnOk P w K mg base CX0 1 f fd ["self"] (spBnd cB) := by
  refine F.ok sc_Book_bounds (fun vs H Q E h => ?_) (fun cdv A outer s H vs Q E hr h => ?_)
  · obtain ⟨a, dx, r, fs, lo, hi, L, rs, rfl, _⟩ := h
    rfl
  · obtain ⟨a, dx, r, fs, lo, hi, L, rs, rfl, ha, l1, l2, l3, hL, hR, hle, nlo, nhi, k⟩ := h
    refine ⟨_, (pss_one (ps_ret (pe_op op_cat (pe_lst (pa_cons (pe_tup (pa_cons pe_int (pa_cons (pe_fld (pv 0) rfl) (pa_cons (pe_fld (pv 0) rfl) pa_nil)))) pa_nil)) (pe_fld (pv 0) rfl)))), ?_⟩
    wtm_at "ev_go"
    refine rd_fldA ha T.cls T.n1 l1 ?_
    wtm_at "ev_go"
    refine rd_fldA ha T.cls T.n2 l2 ?_
    wtm_at "ev_go"
    intro t ht
    wtm_at "ev_go"
    intro q hq
    have s1 : Same H (upd H t (.tup [.int 1, .int lo, .int hi])) := Same.new ht
    have s2 := s1.trans (Same.new (o := .lst [.ref t]) hq)
    have nt : t ≠ q := (ne_of_none upd_same hq)
    wtm_at "ev_go"
    refine rd_fldA (s2 _ _ ha) T.cls T.n3 l3 ?_
    wtm_at "ev_go"
    refine rd_cat upd_same (s2 _ _ hL) (by rw [List.length_cons, List.length_nil]; omega) (fun p hp => ?_)
    have s3 := s2.trans (Same.new (o := .lst ([.ref t] ++ L)) hp)
    exact k p _ _ s3 upd_same ((hR.mono s3).cons (lk_ne (ne_of_none (lk_ne nt upd_same) hp) (lk_ne nt upd_same)) (by decide : (1 : Nat) < 2 ^ 1000) nlo nhi)
theorem ok_binit {f : Addr} {fd fdI fdB : FuncData} (F : Fun K "__init__" "Book.__init__" s_Book_init f fd) (T : TxB K mg fI cD cR cB fB fN) (GI : FnOk P w K mg base CX0 1 fI fdI ["self", "value"] (spInit K)) (bI : Binds K fdI ["self", "value"] [])
    (GR : CalN P w K mg base 1 "is_rule" spIsRule) (GC : CalN P w K mg base 2 "first_conflict" (spConf K)) (GB : FnOk P w K mg base CX0 1 fB fdB ["self"] (spBnd cB)) (bB : Binds K fdB ["self"] []) : FnOk P w K mg base (L2.CX P w) 4 f fd ["self", "low", "high", "rules"] (spBook cB cD cR) := by
  refine F.okX sc_Book_init (fun vs H Q E h => ?_) (fun cdv A outer s H vs Q E hr h => ?_)
  · obtain ⟨a, dx, r, lo, hi, L, rs, rfl, _⟩ := h
    rfl
  · obtain ⟨a, dx, r, lo, hi, L, rs, rfl, ha, hr0, hR, hle, nlo, nhi, k1, k2, k3⟩ := h
    have hr1 : Room 2 _ := hr.mono (by decide)
    refine ⟨_, (pss_cons (ps_if (pt_cmpR op_gt (pv 1) (pv 2) (nomark _)) 
        (pss_one (ps_raise rfl (takes_of rfl rfl rfl rfl) (pmk_oex T.xD.c T.xD.i T.xD.t GI (hr.mono (by decide)) bI .nil pass0 (by rfl) T.xD.g (pa_cons (pe_tup (pa_cons (pv 1) (pa_cons (pv 2) pa_nil))) pa_nil)))) pss_nil)
      (pss_cons (ps_for (passes_of rfl) rfl (pi_enum (by rfl) T.b.n_enumerate (pa_cons (pv 3) pa_nil)) (pg_tup rfl (pgs_cons (pg_name (i := 4) sc_Book_init.nd rfl (Or.inl rfl)) (pgs_cons (pg_name (i := 5) sc_Book_init.nd rfl (Or.inl rfl)) pgs_nil))) 
        (pss_one (ps_if (pt_not (pt_val (pe_cN GR hr1 (by decide) (by rfl) (pa_cons (pv 5) pa_nil)))) 
          (pss_one (ps_raise rfl (takes_of rfl rfl rfl rfl) (pmk_oex T.xR.c T.xR.i T.xR.t GI (hr.mono (by decide)) bI .nil pass0 (by rfl) T.xR.g (pa_cons (pv 4) pa_nil)))) pss_nil)))
      (pss_cons (ps_fld (pv 0) (pv 1) rfl)
      (pss_cons (ps_fld (pv 0) (pv 2) rfl)
      (pss_cons (ps_fld (pv 0) (pe_callTy call_list_of (by rfl) T.b.n_list boot_list (pa_cons (pv 3) pa_nil)) rfl)
      (pss_cons (ps_fld (pv 0) (pe_cN GC hr1 (by decide) (by rfl) (pa_cons (pe_meth0 (pv 0) T.cls T.mB GB (hr.mono (by decide)) bB .nil pass0) pa_nil)) rfl)
      (pss_cons (ps_fld (pv 0) pe_non rfl)
      (pss_one (ps_fld (pv 0) pe_non rfl))))))))), ?_⟩
    wtm_at "ev_go"
    refine rd_ite (fun hlt => ?_) (fun hlt => ?_)
    · wtm_at "ev_go"
      intro t ht
      wtm_at "ev_go"
      exact rd_mko T.xD (fun d H' s e => k1 hlt d t H' ((Same.new ht).trans s) e (s _ _ upd_same))
    · wtm_at "ev_go"
      refine rd_forE (fun i σ' H' => ∃ (x4 x5 : Option V), σ' = [some (.ref a), some (.int lo), some (.int hi), some (.ref r), x4, x5] ∧ Same H H' ∧ ∀ (j : Nat) r', j < i → rs[j]? = some r' → okR r' = true) ⟨_, _, rfl, Same.refl _, fun j _ hj => absurd hj (Nat.not_lt_zero _)⟩
        (fun i σ' H' _ h => by obtain ⟨_, _, _, z, _⟩ := h; exact SqL.of (z _ _ hr0)) ?_ ?_
      · rintro i v σ' H' p hx ⟨x4, x5, rfl, sm, al⟩ hp
        have sm2 := sm.trans (Same.new (o := .tup [.int i, v]) hp)
        obtain ⟨b, q, rfl, hq, hb, nq⟩ := (hR.mono sm2).2 i v hx
        wtm_at "ev_go"
        refine ⟨b, q.1, q.2.1, q.2.2, rfl, hb, ?_⟩
        have e1 : (decide (1 ≤ q.1) && decide (q.2.1 ≤ q.2.2)) = okR q := rfl
        rw [e1]
        wtm_at "ev_go"
        cases ho : okR q with
        | true =>
          rw [if_neg (by decide : ¬ (!true) = true)]
          wtm_at "ev_go"
          refine ⟨_, _, rfl, sm2, fun j r' hj e => ?_⟩
          rcases Nat.lt_succ_iff_lt_or_eq.mp hj with h | rfl
          · exact al j r' h e
          · rw [hq] at e
            cases e
            exact ho
        | false =>
          rw [if_pos (by decide : (!false) = true)]
          wtm_at "ev_go"
          exact rd_mko T.xR (fun d H'' s e => k2 (by omega) i d H'' ⟨q, hq, ho, al⟩ (sm2.trans s) e)
      · rintro σ' H' ⟨x4, x5, rfl, sm, al⟩
        have fine : Fine rs := fun j r' e => al j r' (by rw [hR.1]; exact (List.getElem?_eq_some_iff.mp e).1) e
        wtm_at "ev_go"
        refine rd_sfldA (sm _ _ ha) T.cls T.n1 (by decide) ?_
        wtm_at "ev_go"
        refine rd_sfldA upd_same T.cls T.n2 (Nat.lt_of_le_of_lt (len_put _) (by decide)) ?_
        wtm_at "ev_go"
        have nra : r ≠ a := ne_of (sm _ _ hr0) (sm _ _ ha) (fun z => by cases z)
        refine ⟨r, L, rfl, .inl (SqL.of (lk_ne nra (sm _ _ hr0))), fun l hl => ?_⟩
        have nla : a ≠ l := ne_of_none upd_same hl
        wtm_at "ev_go"
        refine rd_sfldA (lk_ne nla upd_same) T.cls T.n3 (Nat.lt_of_le_of_lt (len_put' (len_put' len_nil)) (by decide)) ?_
        wtm_at "ev_go"
        refine ⟨a, dx, _, rfl, upd_same, by rw [lk_put (by decide +kernel), lk_put (by decide +kernel), lk_put (by decide +kernel)]; rfl, ?_⟩
        wtm_at "ev_go"
        have fr : Fr a H _ := (((Fr.of sm).put (x := .ins cB dx (putF "_high" (.int hi) (putF "_low" (.int lo) [])))).same (Same.new (o := .lst L) hl)).put (x := .ins cB dx (putF "_rules" (.ref l) (putF "_high" (.int hi) (putF "_low" (.int lo) []))))
        have ofFr : ∀ {H' : Hp}, Fr a H H' → RlR H' L rs := fun {H'} fr => ⟨hR.1, fun i v e => by
          obtain ⟨b, r', q1, q2, q3, q4⟩ := hR.2 i v e
          exact ⟨b, r', q1, q2, fr _ _ q3 (ne_of q3 ha (fun z => by cases z)), q4⟩⟩
        refine ⟨a, dx, l, _, lo, hi, L, rs, rfl, upd_same, by rw [lk_put (by decide +kernel), lk_put (by decide +kernel)]; exact lk_put0, by rw [lk_put (by decide +kernel)]; exact lk_put0, lk_put0, lk_ne (Ne.symm nla) upd_same, ofFr fr, hle, nlo, nhi, fun p L' H3 s3 hp3 r3 => ?_⟩
        wtm_at "ev_go"
        refine ⟨p, L', _, _, rfl, SqL.of hp3, r3, fine.wide, fun v H4 s4 hv => ?_⟩
        wtm_at "ev_go"
        refine rd_sfldA (s4 _ _ (s3 _ _ upd_same)) T.cls T.n4 (Nat.lt_of_le_of_lt (len_put' (len_put' (len_put' len_nil))) (by decide)) ?_
        wtm_at "ev_go"
        refine rd_sfldA upd_same T.cls T.n5 (Nat.lt_of_le_of_lt (len_put' (len_put' (len_put' (len_put' len_nil)))) (by decide)) ?_
        wtm_at "ev_go"
        refine rd_sfldA upd_same T.cls T.n6 (Nat.lt_of_le_of_lt (len_put' (len_put' (len_put' (len_put' (len_put' len_nil))))) (by decide)) ?_
        wtm_at "ev_go"
        have fr5 := (fr.same (s3.trans s4)).put (x := .ins cB dx (putF "_spots" .non (putF "_sums" .non (putF "_conflict" v (putF "_rules" (.ref l) (putF "_high" (.int hi) (putF "_low" (.int lo) [])))))))
        refine k3 (by omega) fine _ fr5 ⟨dx, l, _, v, upd_same, lk_ne (Ne.symm nla) ((s3.trans s4) _ _ (lk_ne (Ne.symm nla) upd_same)), ?_, ?_, ?_, ?_, ?_, ofFr fr5, fun m hm => bookF_none hm⟩
        · rw [lk_put (by decide +kernel), lk_put (by decide +kernel), lk_put (by decide +kernel), lk_put (by decide +kernel), lk_put (by decide +kernel)]
          exact lk_put0
        · rw [lk_put (by decide +kernel), lk_put (by decide +kernel), lk_put (by decide +kernel), lk_put (by decide +kernel)]
          exact lk_put0
        · rw [lk_put (by decide +kernel), lk_put (by decide +kernel), lk_put (by decide +kernel)]
          exact lk_put0
        · rw [lk_put (by decide +kernel), lk_put (by decide +kernel)]
          exact lk_put0
        · rcases hv with ⟨e, n⟩ | ⟨q, i, j, e, e2, n⟩
          · exact .inl ⟨e, n⟩
          · exact .inr ⟨q, i, j, e, lk_ne (ne_of e2 (s4 _ _ (s3 _ _ upd_same)) (fun z => by cases z)) e2, n⟩
end
end Ev

namespace Ev
open PySem PySem.Spec PyProof.Rows L2
local macro_rules | `(tactic| wtm_at "ev_ne") => `(tactic| first | assumption | exact Ne.symm (by assumption))
local macro_rules | `(tactic| wtm_at "ev_lk") => `(tactic| first | assumption | exact upd_same | (refine lk_new' (by assumption) ?_; wtm_at "ev_lk") | (refine lk_ne (by wtm_at "ev_ne") ?_; wtm_at "ev_lk") | (refine same_lk (by assumption) ?_; wtm_at "ev_lk"))
local macro_rules | `(tactic| wtm_at "ev_sm") => `(tactic| first | assumption | exact Same.refl _ | (refine same_new ?_ (by assumption); wtm_at "ev_sm") | (refine Same.trans ?_ (by assumption); wtm_at "ev_sm"))
local macro_rules | `(tactic| wtm_at "ev_no") => `(tactic| first | assumption | exact no_back (by assumption) | (refine no_new ?_ (by wtm_at "ev_ne"); wtm_at "ev_no"))
local macro_rules | `(tactic| wtm_at "ev_sq") => `(tactic| first | assumption | exact SqL.of (by wtm_at "ev_lk") | exact SqT.of (by wtm_at "ev_lk"))
local macro_rules | `(tactic| wtm_at "ev_step") => `(tactic| with_reducible first
  | refine rd_seq ?_ | refine rd_next ?_ | refine rd_ret ?_ | refine rd_retN ?_ | refine rd_if ?_ | refine rd_drop ?_ | refine rd_asg ?_ | refine rd_name ?_ | refine rd_gsub ?_ | refine rd_gnil ?_ | refine rd_gcons ?_
  | refine rd_c ?_ | refine rd_op ?_ | refine rd_un ?_ | refine rd_rI0 ?_ | refine rd_rU ?_ | refine rd_tup ?_ | refine rd_lst ?_ | refine rd_nil ?_ | refine rd_cons ?_ | refine rd_cb ?_ | refine rd_call ?_ | refine rd_sl ?_ | refine rd_no ?_ | refine rd_part ?_
  | refine rd_test ?_ | refine rd_tB ?_ | refine rd_not ?_ | refine rd_and ?_ | refine rd_or ?_ | refine rd_notV ?_ | refine rd_andV ?_ | refine rd_orV ?_ | refine rd_ifE ?_ | refine rd_bl ?_ | refine rd_ex ?_
  | refine rd_rng1 ?_ | refine rd_overL ?_ | refine rd_overT ?_ | refine rd_forA ?_ | refine rd_forB ?_ | refine rd_forC ?_ | refine rd_lcA ?_ | refine rd_lcB ?_ | refine rd_lcC ?_ | refine rd_bm ?_ | refine rd_mkv ?_ | refine rd_xv ?_
  | refine rd_T ?_ | refine rd_F ?_ | refine rd_True ?_ | refine rd_False ?_ | refine rd_int ?_ | refine rd_intB ?_ | refine rd_one ?_ | refine rd_two ?_)
local macro_rules | `(tactic| wtm_at "ev_cond") => `(tactic| first | assumption | exact (show (0 : Int) < _ by decide) | exact (show (0 : Int) < _ by omega) | exact Or.inl ⟨by decide, by decide⟩ | exact Or.inr ⟨by decide, by decide⟩ | exact pow_cond (by decide) (by decide) (by first | decide | omega) (by first | decide | omega) | exact wide_div (b := 2000) (by first | assumption | decide | omega) (by first | decide | omega) (by decide) (by decide))
local macro_rules | `(tactic| wtm_at "ev_side") => `(tactic| first
  | ((with_reducible apply rd_var); exact rfl)
  | ((with_reducible apply rd_ixL); (wtm_at "ev_sq"); exact rfl)
  | ((with_reducible apply rd_ixT); (wtm_at "ev_sq"); exact rfl)
  | ((with_reducible apply rd_eq); exact rfl)
  | ((with_reducible apply rd_ne); exact rfl)
  | ((with_reducible apply rd_setL); (wtm_at "ev_lk"); exact rfl)
  | ((with_reducible apply rd_gtup); (wtm_at "ev_sq"); exact rfl)
  | ((with_reducible apply rd_len); (wtm_at "ev_sq"))
  | ((with_reducible apply rd_lenT); (wtm_at "ev_sq"))
  | ((with_reducible apply rd_rg); (first | decide | omega); (first | decide | omega))
  | ((with_reducible apply rd_atL); (wtm_at "ev_sq"))
  | ((with_reducible apply rd_atT); (wtm_at "ev_sq"))
  | ((with_reducible apply rd_tyL); (wtm_at "ev_sq"))
  | ((with_reducible apply rd_cat); (wtm_at "ev_lk"); (wtm_at "ev_lk"); exact Nat.le_of_ble_eq_true rfl)
  | ((with_reducible apply rd_size); exact Nat.le_of_ble_eq_true rfl)
  | ((with_reducible apply rd_rI); wtm_at "ev_cond"))
local macro_rules | `(tactic| wtm_at "ev_rd") => `(tactic| repeat (first | wtm_at "ev_step" | wtm_at "ev_side"))
local macro_rules | `(tactic| wtm_at "ev_go") => `(tactic| ((try simp only [L2.start, List.map_cons, List.map_nil, List.length_cons, List.length_nil, Nat.reduceAdd, Nat.reduceSub, List.replicate_succ, List.replicate_zero, List.cons_append, List.nil_append]); wtm_at "ev_rd"; (try simp only [List.set_cons_zero, List.set_cons_succ, upd_upd])))
local macro_rules | `(tactic| wtm_at "ev_step") => `(tactic| with_reducible first | refine rd_par ?_ | refine rd_par2 ?_ | refine rd_forD ?_)
local macro_rules | `(tactic| wtm_at "ev_side") => `(tactic| ((with_reducible apply rd_enumL); (wtm_at "ev_sq")))
local macro_rules | `(tactic| wtm_at "ev_cond") => `(tactic| exact Num.mul (by assumption) (by assumption))
local macro_rules | `(tactic| wtm_at "ev_step") => `(tactic| with_reducible first | refine rd_fld ?_ | refine rd_sfld ?_ | refine rd_tmko ?_ | refine rd_meth0 ?_ | refine rd_make ?_ | refine rd_prop ?_ | refine rd_callK0 ?_)
theorem num_neg {i : Int} (h : Num i) : Num (-i) := by
  unfold Num at h ⊢
  rw [Int.natAbs_neg]
  exact h

theorem Shared.fine {lo hi : Int} {rs : List R3} {wd : Int} (h : Shared lo hi rs) (g : Within wd rs) : Fine rs := fun j r e => by
  obtain ⟨o, u, hu, _, _, a⟩ := h
  have hm := List.mem_of_getElem? e
  obtain ⟨b1, b2⟩ := a r hm
  have : r.2.1 ≤ r.2.2 := Int.le_of_mul_le_mul_right (Int.le_trans b1 b2) hu
  unfold okR
  rw [decide_eq_true (g r hm).1, decide_eq_true this]
  rfl
def spMade (C : Addr) : Sp := fun vs H Q _ => ∃ (k l : Addr) (lo hi : Int) (R : List V) (rs : List R3), vs = [.ref k] ∧ H k = some (.tup [.int lo, .int hi, .ref l]) ∧ H l = some (.lst R) ∧ RlR H R rs ∧ R.length ≤ 1000 ∧ Num lo ∧ Num hi ∧ lo ≤ hi ∧ Fine rs ∧
  ∀ (a : Addr) (H' : Hp), Same H H' → H a = none → BookAt C H' a lo hi R rs → Q (.ref a) H'
/-- what the making of a book asks and gives, its numbers fine -/
theorem book_ok {C cD cR : Addr} {H : Hp} {Q : Addr → Hp → Prop} {E : XK} {c : Addr} {lo hi : Int} {R : List V} {rs : List R3} (hc : H c = some (.lst R)) (hR : RlR H R rs) (hle : R.length ≤ 1000) (nlo : Num lo) (nhi : Num hi) (lohi : lo ≤ hi) (fine : Fine rs)
    (q : ∀ (a : Addr) (H' : Hp), Same H H' → H a = none → BookAt C H' a lo hi R rs → Q a H') :
    ∀ x dx, H x = none → H dx = none → dx ≠ x → spBook C cD cR (.ref x :: ([.int lo, .int hi, .ref c] ++ [])) (upd (upd H dx (.own x)) x (.ins C dx [])) (fun v H2 => v = .non ∧ Q x H2) E := by
  intro x dx hx hdx ne
  have sN : Same H (upd (upd H dx (.own x)) x (.ins C dx [])) := (Same.new hdx).trans (Same.new (by rw [upd_ne (Ne.symm ne)]; exact hx))
  refine ⟨x, dx, c, lo, hi, R, rs, rfl, upd_same, sN _ _ hc, hR.mono sN, hle, nlo, nhi, fun h => absurd h (by omega), fun _ i d H' bad _ _ => ?_, fun _ _ H' fr bk => ⟨rfl, ?_⟩⟩
  · obtain ⟨r, e, b, _⟩ := bad
    rw [fine _ _ e] at b
    cases b
  · exact q x H' (fun b o z => fr b o (sN b o z) (ne_of_none z hx)) hx bk
section
variable {P : Program} {w : World} {K : PySem.W.Frag} {mg : Str → Option Value} {base : Heap} {fI cD cR cB fB fN cW cL : Addr}
theorem ok_made {f : Addr} {fd fdN : FuncData} (F : Fun K "_law_made" "_law_made" s_made f fd) (T : TxB K mg fI cD cR cB fB fN) (GN : FnOk P w K mg base (L2.CX P w) 4 fN fdN ["self", "low", "high", "rules"] (spBook cB cD cR)) (bN : Binds K fdN ["self", "low", "high", "rules"] []) : FnOk P w K mg base CX0 6 f fd ["kind"] (spMade cB) := by
  refine F.ok sc_made (fun vs H Q E h => ?_) (fun cdv A outer s H vs Q E hr h => ?_)
  · obtain ⟨k, l, lo, hi, R, rs, rfl, _⟩ := h
    rfl
  · obtain ⟨k, l, lo, hi, R, rs, rfl, hk, hl, hR, hle, nlo, nhi, lohi, fine, q⟩ := h
    refine ⟨_, (pss_one (ps_ret (pe_make T.mB2 GN (hr.mono (by decide)) (by rfl) T.gB bN .nil L2.passL (pa_cons (pe_ix ix_tup (pv 0) pe_int (fun _ _ => rfl)) (pa_cons (pe_ix ix_tup (pv 0) pe_int (fun _ _ => rfl)) (pa_cons (pe_callTy call_list_of (by rfl) T.b.n_list boot_list (pa_cons (pe_ix ix_tup (pv 0) pe_int (fun _ _ => rfl)) pa_nil)) pa_nil)))))), ?_⟩
    wtm_at "ev_go"
    intro c hc
    wtm_at "ev_go"
    have sC : Same H (upd H c (.lst R)) := Same.new hc
    exact book_ok upd_same (hR.mono sC) hle nlo nhi lohi fine (fun a H' s na bk => q a H' (sC.trans s) (sC.free na) bk)
end

/-- two books with the same numbers -/
def TwoB (C : Addr) (a b : Addr) (H : Hp) : Prop := ∃ (lo hi : Int) (L M : List V) (rs : List R3), BookAt C H a lo hi L rs ∧ BookAt C H b lo hi M rs
theorem line_all : ∀ rs : List R3, PyData.canLayAll0 (rs.map lineD) = true ∧ PyData.depthAll (rs.map lineD) ≤ 1
  | [] => ⟨by simp only [List.map_nil, PyData.canLayAll0], by simp [PyData.depthAll]⟩
  | r :: rs => by
    obtain ⟨a, b⟩ := line_all rs
    have c : (lineD r).canLay0 = true := rfl
    have d : (lineD r).depth = 1 := rfl
    refine ⟨?_, ?_⟩
    · simp only [List.map_cons, PyData.canLayAll0, c, a, Bool.and_self]
    · simp only [List.map_cons, PyData.depthAll, d]
      omega
theorem lineD_ok (rs : List R3) : (PyData.list (rs.map lineD)).canLay0 = true ∧ SeqAt.shaped (PyData.list (rs.map lineD)) = true := by
  obtain ⟨a, b⟩ := line_all rs
  have h1 : (PyData.list (rs.map lineD)).canLay0 = true := by simp only [PyData.canLay0]; exact a
  refine ⟨h1, ?_⟩
  unfold SeqAt.shaped
  rw [h1, Bool.true_and, decide_eq_true_iff]
  simp only [PyData.depth]
  omega
theorem two_ok {C a b : Addr} {H : Hp} {lo hi : Int} {L M : List V} {rs : List R3} {Q : VK} (h : BookAt C H a lo hi L rs) (g : BookAt C H b lo hi M rs) (q : ∀ H', Same H H' → Q (.bl true) H') : rEqG (DIns C (TwoB C)) (.ref a) (.ref b) H Q := by
  obtain ⟨dx, l, fs, v, h1, _⟩ := id h
  obtain ⟨dy, m, gs, u, g1, _⟩ := id g
  exact ⟨⟨a, b, dx, dy, fs, gs, rfl, rfl, h1, g1, lo, hi, L, M, rs, h, g⟩, q⟩
section
variable {P : Program} {w : World} {K : PySem.W.Frag} {mg : Str → Option Value} {base : Heap} {fI cD cR cB fB fN cW cL : Addr}
theorem ok_eq {f : Addr} {fd : FuncData} (F : Fun K "__eq__" "Book.__eq__" s_Book_eq f fd) (T : TxB K mg fI cD cR cB fB fN) (kB : PySem.W.kitOne K (.ref cB) (.ref cB) = some true) (ty : ∀ (a dx : Addr) (fs : List (Str × V)) (H : Hp), H a = some (.ins cB dx fs) → TyX K H (.ref a) (.ref cB)) : FnOk P w K mg base CX0 1 f fd ["self", "other"] (spEq (TwoB cB)) := by
  refine F.ok sc_Book_eq (fun vs H Q E h => ?_) (fun cdv A outer s H vs Q E hr h => ?_)
  · obtain ⟨a, b, rfl, _⟩ := h
    rfl
  · obtain ⟨a, b, rfl, ⟨lo, hi, L, M, rs, ⟨dx, l, fs, v, ha, hl, l1, l2, l3, _, _, hR, _⟩, ⟨dy, m, gs, u, hb, hm, m1, m2, m3, _, _, hS, _⟩⟩, q⟩ := h
    refine ⟨_, (pss_cons (ps_if (pt_not (pt_val (pe_callB call_isi (by rfl) T.b.n_isinstance boot_isinstance (pa_cons (pv 1) (pa_cons (pe_glob (v := .ref _) (by rfl) T.gB rfl) pa_nil))))) 
        (pss_one (ps_ret pe_bl)) pss_nil)
      (pss_one (ps_ret (pe_and (pe_cmpR op_eq (pe_fld (pv 0) rfl) (pe_fld (pv 1) rfl) (nomark _)) (pe_and (pe_cmpR op_eq (pe_fld (pv 0) rfl) (pe_fld (pv 1) rfl) (nomark _)) (pe_one (pe_cmpR (op_eqD (hun64 hr)) (pe_fld (pv 0) rfl) (pe_fld (pv 1) rfl) (nomark _)))))))), ?_⟩
    wtm_at "ev_go"
    refine rd_isi (.own _) (ty _ _ _ _ hb) kB ?_
    wtm_at "ev_go"
    rw [if_neg (by decide : ¬ (!true) = true)]
    wtm_at "ev_go"
    refine rd_fldA ha T.cls T.n1 l1 ?_
    wtm_at "ev_go"
    refine rd_fldA hb T.cls T.n1 m1 ?_
    wtm_at "ev_go"
    rw [if_pos (by simp)]
    wtm_at "ev_go"
    refine rd_fldA ha T.cls T.n2 l2 ?_
    wtm_at "ev_go"
    refine rd_fldA hb T.cls T.n2 m2 ?_
    wtm_at "ev_go"
    rw [if_pos (by simp)]
    wtm_at "ev_go"
    refine rd_fldA ha T.cls T.n3 l3 ?_
    wtm_at "ev_go"
    refine rd_fldA hb T.cls T.n3 m3 ?_
    wtm_at "ev_go"
    obtain ⟨c1, c2⟩ := lineD_ok rs
    refine ⟨_, _, .lst (SqL.of hl) hR.all, .lst (SqL.of hm) hS.all, c2, c2, ?_⟩
    rw [SeqAt.eqv_refl _ c1]
    exact q H fun _ _ z => z
end

def spCfl (C : Addr) : Sp := fun vs H Q _ => ∃ (a : Addr) (lo hi : Int) (R : List V) (rs : List R3), vs = [.ref a] ∧ BookAt C H a lo hi R rs ∧ ∀ v : V, ConfV ((1, lo, hi) :: rs) v H → Q v H
section
variable {P : Program} {w : World} {K : PySem.W.Frag} {mg : Str → Option Value} {base : Heap} {fI cD cR cB fB fN cW cL : Addr}
theorem ok_cfl {f : Addr} {fd : FuncData} (F : Fun K "conflict" "Book.conflict" s_Book_conflict f fd) (T : TxB K mg fI cD cR cB fB fN) : FnOk P w K mg base CX0 1 f fd ["self"] (spCfl cB) := by
  refine F.ok sc_Book_conflict (fun vs H Q E h => ?_) (fun cdv A outer s H vs Q E hr h => ?_)
  · obtain ⟨a, lo, hi, R, rs, rfl, _⟩ := h
    rfl
  · obtain ⟨a, lo, hi, R, rs, rfl, ⟨dx, l, fs, v, ha, hl, l1, l2, l3, l4, cv, hR, l5⟩, q⟩ := h
    refine ⟨_, (pss_one (ps_ret (pe_fld (pv 0) rfl))), ?_⟩
    wtm_at "ev_go"
    exact rd_fldA ha T.cls T.n4 l4 (q v cv)
end

/-- a raised error that keeps this value -/
def Raised (H' : Hp) (d : Addr) (v : V) : Prop := H' d = some (.xd [(("value" : Str), v)])
def spWidth (cL : Addr) : Sp := fun vs H Q E => ∃ n : Int, vs = [.int n] ∧ (1 ≤ n → Q .non H) ∧ (n < 1 → ∀ (d : Addr) (H' : Hp), Same H H' → Raised H' d (.int n) → E (.ref cL) (some d) H')
def spRows (C cW : Addr) : Sp := fun vs H Q E => ∃ (a : Addr) (lo hi : Int) (R : List V) (rs : List R3), vs = [.ref a] ∧ BookAt C H a lo hi R rs ∧ (NoConf ((1, lo, hi) :: rs) → Q .non H) ∧
  ∀ (p : Addr) (i j : Nat), H p = some (.tup [.int i, .int j]) → FirstConf ((1, lo, hi) :: rs) i j → ∀ (d : Addr) (H' : Hp), Same H H' → Raised H' d (.ref p) → E (.ref cW) (some d) H'
section
variable {P : Program} {w : World} {K : PySem.W.Frag} {mg : Str → Option Value} {base : Heap} {fI cD cR cB fB fN cW cL : Addr}
theorem ok_rows {f fC : Addr} {fd fdI fdC : FuncData} (F : Fun K "check_rows" "check_rows" s_check_rows f fd) (T : TxB K mg fI cD cR cB fB fN) (xW : ExT K mg "NoRows" cW fI) (GI : FnOk P w K mg base CX0 1 fI fdI ["self", "value"] (spInit K)) (bI : Binds K fdI ["self", "value"] [])
    (mC : Meth K cB "conflict" fC) (GCf : FnOk P w K mg base CX0 1 fC fdC ["self"] (spCfl cB)) (bCf : Binds K fdC ["self"] []) : FnOk P w K mg base (L2.CX P w) 3 f fd ["book"] (spRows cB cW) := by
  refine F.okX sc_check_rows (fun vs H Q E h => ?_) (fun cdv A outer s H vs Q E hr h => ?_)
  · obtain ⟨a, lo, hi, R, rs, rfl, _⟩ := h
    rfl
  · obtain ⟨a, lo, hi, R, rs, rfl, bk, q1, q2⟩ := h
    obtain ⟨dx, l, fs, v, ha, hl, l1, l2, l3, l4, cv, hR, l5⟩ := id bk
    refine ⟨_, (pss_cons (ps_set (i := 1) sc_check_rows.nd rfl (Or.inl rfl) (pe_meth0 (pv 0) T.cls mC GCf (hr.mono (by decide)) bCf .nil pass0))
      (pss_one (ps_if (pt_cmpR op_notN (pv 1) pe_non (nomark _)) 
        (pss_one (ps_raise rfl (takes_of rfl rfl rfl rfl) (pmk_oex xW.c xW.i xW.t GI (hr.mono (by decide)) bI .nil pass0 (by rfl) xW.g (pa_cons (pv 1) pa_nil)))) pss_nil))), ?_⟩
    wtm_at "ev_go"
    refine ⟨a, dx, fs, rfl, ha, l5 _ (by decide +kernel), ?_⟩
    wtm_at "ev_go"
    refine ⟨a, lo, hi, R, rs, rfl, bk, fun v hv => ?_⟩
    wtm_at "ev_go"
    rcases hv with ⟨rfl, n⟩ | ⟨p, i, j, rfl, e, n⟩
    · refine ⟨trivial, ?_⟩
      wtm_at "ev_go"
      rw [if_neg (by simp)]
      wtm_at "ev_go"
      exact q1 n
    · refine ⟨trivial, ?_⟩
      wtm_at "ev_go"
      rw [if_pos (by simp)]
      wtm_at "ev_go"
      exact rd_mko xW (fun d H' s e' => q2 p i j e n d H' s e')
theorem ok_width {f : Addr} {fd fdI : FuncData} (F : Fun K "check_width" "check_width" s_check_width f fd) (xL : ExT K mg "InvalidLength" cL fI) (GI : FnOk P w K mg base CX0 1 fI fdI ["self", "value"] (spInit K)) (bI : Binds K fdI ["self", "value"] []) : FnOk P w K mg base (L2.CX P w) 3 f fd ["width"] (spWidth cL) := by
  refine F.okX sc_check_width (fun vs H Q E h => ?_) (fun cdv A outer s H vs Q E hr h => ?_)
  · obtain ⟨n, rfl, _⟩ := h
    rfl
  · obtain ⟨n, rfl, q1, q2⟩ := h
    refine ⟨_, (pss_one (ps_if (pt_cmpR op_lt (pv 0) pe_int (nomark _)) 
        (pss_one (ps_raise rfl (takes_of rfl rfl rfl rfl) (pmk_oex xL.c xL.i xL.t GI (hr.mono (by decide)) bI .nil pass0 (by rfl) xL.g (pa_cons (pv 0) pa_nil)))) pss_nil)), ?_⟩
    wtm_at "ev_go"
    refine rd_ite (fun c => ?_) (fun c => ?_)
    · wtm_at "ev_go"
      exact rd_mko xL (fun d H' s e => q2 c d H' s e)
    · wtm_at "ev_go"
      exact q1 (by omega)
end

/-- the widths and numbers of a book as the program reckons with them -/
structure Nums (lo hi : Int) (R : List V) (rs : List R3) : Prop where
  l : R.length ≤ 1000
  a : Num lo
  b : Num hi
  w : Wide1 ((1, lo, hi) :: rs)
def spStr (C cW cL : Addr) (g : Int → Int → List R3 → Int → Int) : Sp := fun vs H Q E => ∃ (a : Addr) (lo hi n : Int) (R : List V) (rs : List R3), vs = [.ref a, .int n] ∧ BookAt C H a lo hi R rs ∧ Nums lo hi R rs ∧ Num n ∧
  (NoConf ((1, lo, hi) :: rs) → 1 ≤ n → ∀ H', Same H H' → Q (.int (g lo hi rs n)) H') ∧
  (NoConf ((1, lo, hi) :: rs) → n < 1 → ∀ (d : Addr) (H' : Hp), Same H H' → Raised H' d (.int n) → E (.ref cL) (some d) H') ∧
  ∀ (p : Addr) (i j : Nat), H p = some (.tup [.int i, .int j]) → FirstConf ((1, lo, hi) :: rs) i j → ∀ (d : Addr) (H' : Hp), Same H H' → Raised H' d (.ref p) → E (.ref cW) (some d) H'
def strL (lo hi : Int) (rs : List R3) (n : Int) : Int := (lowM (1, lo, hi) rs).1 * n / (lowM (1, lo, hi) rs).2
def strM (lo hi : Int) (rs : List R3) (n : Int) : Int := -(-(highM (1, lo, hi) rs).1 * n / (highM (1, lo, hi) rs).2)
section
variable {P : Program} {w : World} {K : PySem.W.Frag} {mg : Str → Option Value} {base : Heap} {fI cD cR cB fB fN cW cL : Addr}
theorem ok_sleast {f fR fW : Addr} {fd fdR fdW fdB : FuncData} (F : Fun K "strictest_least" "strictest_least" s_strictest_least f fd) (T : TxB K mg fI cD cR cB fB fN) (GRo : CalX P w K mg base 3 "check_rows" fR fdR ["book"] (spRows cB cW)) (GWi : CalX P w K mg base 3 "check_width" fW fdW ["width"] (spWidth cL)) (GL : CalN P w K mg base 1 "lowest_most" (spLow K))
    (GB : FnOk P w K mg base CX0 1 fB fdB ["self"] (spBnd cB)) (bB : Binds K fdB ["self"] []) : FnOk P w K mg base (L2.CX P w) 4 f fd ["book", "width"] (spStr cB cW cL strL) := by
  refine F.okX sc_strictest_least (fun vs H Q E h => ?_) (fun cdv A outer s H vs Q E hr h => ?_)
  · obtain ⟨a, lo, hi, n, R, rs, rfl, _⟩ := h
    rfl
  · obtain ⟨a, lo, hi, n, R, rs, rfl, bk, nu, nn, q1, q2, q3⟩ := h
    obtain ⟨dx, l, fs, v, ha, hl, l1, l2, l3, l4, cv, hR, l5⟩ := id bk
    refine ⟨_, (pss_cons (ps_expr (pe_cX GRo hr (by decide) (passes_call (takes_of rfl rfl rfl rfl) (fun _ _ _ _ h => h)) (by rfl) (pa_cons (pv 0) pa_nil)))
      (pss_cons (ps_expr (pe_cX GWi hr (by decide) (passes_call (takes_of rfl rfl rfl rfl) (fun _ _ _ _ h => h)) (by rfl) (pa_cons (pv 1) pa_nil)))
      (pss_cons (ps_asg (pe_cN GL hr (by decide) (by rfl) (pa_cons (pe_meth0 (pv 0) T.cls T.mB GB (hr.mono (by decide)) bB .nil pass0) pa_nil)) (pg_tup rfl (pgs_cons (pg_name (i := 2) sc_strictest_least.nd rfl (Or.inl rfl)) (pgs_cons (pg_name (i := 3) sc_strictest_least.nd rfl (Or.inl rfl)) pgs_nil))))
      (pss_one (ps_ret (pe_op op_fdivW (pe_op op_mulW (pv 2) (pv 1)) (pv 3))))))), ?_⟩
    wtm_at "ev_go"
    refine ⟨a, lo, hi, R, rs, rfl, bk, fun nc => ?_, q3⟩
    wtm_at "ev_go"
    refine ⟨n, rfl, fun h1 => ?_, fun h1 => q2 nc h1⟩
    wtm_at "ev_go"
    refine ⟨a, dx, fs, rfl, ha, l5 _ (by decide +kernel), ?_⟩
    wtm_at "ev_go"
    refine ⟨a, dx, l, fs, lo, hi, R, rs, rfl, ha, l1, l2, l3, hl, hR, nu.l, nu.a, nu.b, fun p L' H1 s1 hp r1 => ?_⟩
    wtm_at "ev_go"
    refine ⟨p, L', (1, lo, hi), rs, rfl, SqL.of hp, r1, fun q hq n1 n2 => ?_⟩
    have isl := low_is (1, lo, hi) rs nu.w
    have pos : 0 < (lowM (1, lo, hi) rs).2 := by
      obtain ⟨⟨z, hz, e⟩, _⟩ := isl
      rw [e]
      have := nu.w z hz
      show 0 < z.1
      omega
    have cd := wide_div (i := (lowM (1, lo, hi) rs).1 * n) (b := 1000) pos n2 (by decide) (by decide)
    wtm_at "ev_go"
    exact q1 nc h1 _ (s1.trans (Same.new hq))
theorem ok_smost {f fR fW : Addr} {fd fdR fdW fdB : FuncData} (F : Fun K "strictest_most" "strictest_most" s_strictest_most f fd) (T : TxB K mg fI cD cR cB fB fN) (GRo : CalX P w K mg base 3 "check_rows" fR fdR ["book"] (spRows cB cW)) (GWi : CalX P w K mg base 3 "check_width" fW fdW ["width"] (spWidth cL)) (GH : CalN P w K mg base 1 "highest_least" (spHigh K))
    (GB : FnOk P w K mg base CX0 1 fB fdB ["self"] (spBnd cB)) (bB : Binds K fdB ["self"] []) : FnOk P w K mg base (L2.CX P w) 4 f fd ["book", "width"] (spStr cB cW cL strM) := by
  refine F.okX sc_strictest_most (fun vs H Q E h => ?_) (fun cdv A outer s H vs Q E hr h => ?_)
  · obtain ⟨a, lo, hi, n, R, rs, rfl, _⟩ := h
    rfl
  · obtain ⟨a, lo, hi, n, R, rs, rfl, bk, nu, nn, q1, q2, q3⟩ := h
    obtain ⟨dx, l, fs, v, ha, hl, l1, l2, l3, l4, cv, hR, l5⟩ := id bk
    refine ⟨_, (pss_cons (ps_expr (pe_cX GRo hr (by decide) (passes_call (takes_of rfl rfl rfl rfl) (fun _ _ _ _ h => h)) (by rfl) (pa_cons (pv 0) pa_nil)))
      (pss_cons (ps_expr (pe_cX GWi hr (by decide) (passes_call (takes_of rfl rfl rfl rfl) (fun _ _ _ _ h => h)) (by rfl) (pa_cons (pv 1) pa_nil)))
      (pss_cons (ps_asg (pe_cN GH hr (by decide) (by rfl) (pa_cons (pe_meth0 (pv 0) T.cls T.mB GB (hr.mono (by decide)) bB .nil pass0) pa_nil)) (pg_tup rfl (pgs_cons (pg_name (i := 2) sc_strictest_most.nd rfl (Or.inl rfl)) (pgs_cons (pg_name (i := 3) sc_strictest_most.nd rfl (Or.inl rfl)) pgs_nil))))
      (pss_one (ps_ret (pe_un un_neg (pe_op op_fdivW (pe_op op_mulW (pe_un un_neg (pv 2)) (pv 1)) (pv 3)))))))), ?_⟩
    wtm_at "ev_go"
    refine ⟨a, lo, hi, R, rs, rfl, bk, fun nc => ?_, q3⟩
    wtm_at "ev_go"
    refine ⟨n, rfl, fun h1 => ?_, fun h1 => q2 nc h1⟩
    wtm_at "ev_go"
    refine ⟨a, dx, fs, rfl, ha, l5 _ (by decide +kernel), ?_⟩
    wtm_at "ev_go"
    refine ⟨a, dx, l, fs, lo, hi, R, rs, rfl, ha, l1, l2, l3, hl, hR, nu.l, nu.a, nu.b, fun p L' H1 s1 hp r1 => ?_⟩
    wtm_at "ev_go"
    refine ⟨p, L', (1, lo, hi), rs, rfl, SqL.of hp, r1, fun q hq n1 n2 => ?_⟩
    have isl := high_is (1, lo, hi) rs nu.w
    have pos : 0 < (highM (1, lo, hi) rs).2 := by
      obtain ⟨⟨z, hz, e⟩, _⟩ := isl
      rw [e]
      have := nu.w z hz
      show 0 < z.1
      omega
    have cd := wide_div (i := -(highM (1, lo, hi) rs).1 * n) (b := 1000) pos n2 (by decide) (by decide)
    have n3 : Num (-(highM (1, lo, hi) rs).1) := num_neg n1
    wtm_at "ev_go"
    exact q1 nc h1 _ (s1.trans (Same.new hq))
end
end Ev

namespace Ev
open PySem PySem.Spec PyProof.Rows L2
local macro_rules | `(tactic| wtm_at "ev_ne") => `(tactic| first | assumption | exact Ne.symm (by assumption))
local macro_rules | `(tactic| wtm_at "ev_lk") => `(tactic| first | assumption | exact upd_same | (refine lk_new' (by assumption) ?_; wtm_at "ev_lk") | (refine lk_ne (by wtm_at "ev_ne") ?_; wtm_at "ev_lk") | (refine same_lk (by assumption) ?_; wtm_at "ev_lk"))
local macro_rules | `(tactic| wtm_at "ev_sm") => `(tactic| first | assumption | exact Same.refl _ | (refine same_new ?_ (by assumption); wtm_at "ev_sm") | (refine Same.trans ?_ (by assumption); wtm_at "ev_sm"))
local macro_rules | `(tactic| wtm_at "ev_no") => `(tactic| first | assumption | exact no_back (by assumption) | (refine no_new ?_ (by wtm_at "ev_ne"); wtm_at "ev_no"))
local macro_rules | `(tactic| wtm_at "ev_sq") => `(tactic| first | assumption | exact SqL.of (by wtm_at "ev_lk") | exact SqT.of (by wtm_at "ev_lk"))
local macro_rules | `(tactic| wtm_at "ev_step") => `(tactic| with_reducible first
  | refine rd_seq ?_ | refine rd_next ?_ | refine rd_ret ?_ | refine rd_retN ?_ | refine rd_if ?_ | refine rd_drop ?_ | refine rd_asg ?_ | refine rd_name ?_ | refine rd_gsub ?_ | refine rd_gnil ?_ | refine rd_gcons ?_
  | refine rd_c ?_ | refine rd_op ?_ | refine rd_un ?_ | refine rd_rI0 ?_ | refine rd_rU ?_ | refine rd_tup ?_ | refine rd_lst ?_ | refine rd_nil ?_ | refine rd_cons ?_ | refine rd_cb ?_ | refine rd_call ?_ | refine rd_sl ?_ | refine rd_no ?_ | refine rd_part ?_
  | refine rd_test ?_ | refine rd_tB ?_ | refine rd_not ?_ | refine rd_and ?_ | refine rd_or ?_ | refine rd_notV ?_ | refine rd_andV ?_ | refine rd_orV ?_ | refine rd_ifE ?_ | refine rd_bl ?_ | refine rd_ex ?_
  | refine rd_rng1 ?_ | refine rd_overL ?_ | refine rd_overT ?_ | refine rd_forA ?_ | refine rd_forB ?_ | refine rd_forC ?_ | refine rd_lcA ?_ | refine rd_lcB ?_ | refine rd_lcC ?_ | refine rd_bm ?_ | refine rd_mkv ?_ | refine rd_xv ?_
  | refine rd_T ?_ | refine rd_F ?_ | refine rd_True ?_ | refine rd_False ?_ | refine rd_int ?_ | refine rd_intB ?_ | refine rd_one ?_ | refine rd_two ?_)
local macro_rules | `(tactic| wtm_at "ev_cond") => `(tactic| first | assumption | exact (show (0 : Int) < _ by decide) | exact (show (0 : Int) < _ by omega) | exact Or.inl ⟨by decide, by decide⟩ | exact Or.inr ⟨by decide, by decide⟩ | exact pow_cond (by decide) (by decide) (by first | decide | omega) (by first | decide | omega) | exact wide_div (b := 2000) (by first | assumption | decide | omega) (by first | decide | omega) (by decide) (by decide))
local macro_rules | `(tactic| wtm_at "ev_side") => `(tactic| first
  | ((with_reducible apply rd_var); exact rfl)
  | ((with_reducible apply rd_ixL); (wtm_at "ev_sq"); exact rfl)
  | ((with_reducible apply rd_ixT); (wtm_at "ev_sq"); exact rfl)
  | ((with_reducible apply rd_eq); exact rfl)
  | ((with_reducible apply rd_ne); exact rfl)
  | ((with_reducible apply rd_setL); (wtm_at "ev_lk"); exact rfl)
  | ((with_reducible apply rd_gtup); (wtm_at "ev_sq"); exact rfl)
  | ((with_reducible apply rd_len); (wtm_at "ev_sq"))
  | ((with_reducible apply rd_lenT); (wtm_at "ev_sq"))
  | ((with_reducible apply rd_rg); (first | decide | omega); (first | decide | omega))
  | ((with_reducible apply rd_atL); (wtm_at "ev_sq"))
  | ((with_reducible apply rd_atT); (wtm_at "ev_sq"))
  | ((with_reducible apply rd_tyL); (wtm_at "ev_sq"))
  | ((with_reducible apply rd_cat); (wtm_at "ev_lk"); (wtm_at "ev_lk"); exact Nat.le_of_ble_eq_true rfl)
  | ((with_reducible apply rd_size); exact Nat.le_of_ble_eq_true rfl)
  | ((with_reducible apply rd_rI); wtm_at "ev_cond"))
local macro_rules | `(tactic| wtm_at "ev_rd") => `(tactic| repeat (first | wtm_at "ev_step" | wtm_at "ev_side"))
local macro_rules | `(tactic| wtm_at "ev_go") => `(tactic| ((try simp only [L2.start, List.map_cons, List.map_nil, List.length_cons, List.length_nil, Nat.reduceAdd, Nat.reduceSub, List.replicate_succ, List.replicate_zero, List.cons_append, List.nil_append]); wtm_at "ev_rd"; (try simp only [List.set_cons_zero, List.set_cons_succ, upd_upd])))
local macro_rules | `(tactic| wtm_at "ev_step") => `(tactic| with_reducible first | refine rd_par ?_ | refine rd_par2 ?_ | refine rd_forD ?_)
local macro_rules | `(tactic| wtm_at "ev_side") => `(tactic| ((with_reducible apply rd_enumL); (wtm_at "ev_sq")))
local macro_rules | `(tactic| wtm_at "ev_cond") => `(tactic| exact Num.mul (by assumption) (by assumption))
local macro_rules | `(tactic| wtm_at "ev_step") => `(tactic| with_reducible first | refine rd_fld ?_ | refine rd_sfld ?_ | refine rd_tmko ?_ | refine rd_meth0 ?_ | refine rd_make ?_ | refine rd_prop ?_ | refine rd_callK0 ?_)

open L2H
theorem roomH_mark {k : Nat} {A : Around} {x : Option Value} (r : Room k A) : RoomH k (A.mark x) := ⟨r.dp, r.un⟩
section
variable {K : PySem.W.Frag} {σ : L2.St} {H : Hp}
theorem rd_txs {a : Addr} {cls : Value} {d : Option Addr} {f : Str} {te : TE} {Q : VK} (h : te σ H fun x H1 => x = .ref a ∧ ∃ (C : Addr) (fs : List (Str × V)) (v : V), Held K H1 cls d C fs ∧ PySem.W.findIn K (.ref C) f = some none ∧ fs.lookup f = some v ∧ Q v H1) : tXs K a cls d f te σ H Q := h
end
local macro_rules | `(tactic| wtm_at "ev_step") => `(tactic| with_reducible first | refine rd_txs ?_)
theorem len4 {α : Type} : ∀ {l : List α}, l.length = 4 → ∃ a b c d, l = [a, b, c, d]
  | [a, b, c, d], _ => ⟨a, b, c, d, rfl⟩
/-- the classes of errors by their names -/
structure TxY (mg : Str → Option Value) (c_Contradiction c_InvalidDay c_InvalidDays c_InvalidKnown c_InvalidNumber c_InvalidRule c_TooMany c_NothingToUndo c_Unreadable c_NoRows c_InvalidLength : Addr) : Prop where
  g_Contradiction : mg "Contradiction" = some (.ref c_Contradiction)
  g_InvalidDay : mg "InvalidDay" = some (.ref c_InvalidDay)
  g_InvalidDays : mg "InvalidDays" = some (.ref c_InvalidDays)
  g_InvalidKnown : mg "InvalidKnown" = some (.ref c_InvalidKnown)
  g_InvalidNumber : mg "InvalidNumber" = some (.ref c_InvalidNumber)
  g_InvalidRule : mg "InvalidRule" = some (.ref c_InvalidRule)
  g_TooMany : mg "TooMany" = some (.ref c_TooMany)
  g_NothingToUndo : mg "NothingToUndo" = some (.ref c_NothingToUndo)
  g_Unreadable : mg "Unreadable" = some (.ref c_Unreadable)
  g_NoRows : mg "NoRows" = some (.ref c_NoRows)
  g_InvalidLength : mg "InvalidLength" = some (.ref c_InvalidLength)
/-- of which classes an error is, as the law asks -/
structure Flag (K : PySem.W.Frag) (C : Addr) (c_Contradiction c_InvalidDay c_InvalidDays c_InvalidKnown c_InvalidNumber c_InvalidRule c_TooMany c_NothingToUndo c_Unreadable c_NoRows c_InvalidLength : Addr) (bW bL : Bool) : Prop where
  v : ExV K C
  n : PySem.W.findIn K (.ref C) "value" = some none
  a7 : PySem.W.kitAny K (.ref C) [.ref c_Contradiction, .ref c_InvalidDay, .ref c_InvalidDays, .ref c_InvalidKnown, .ref c_InvalidNumber, .ref c_InvalidRule, .ref c_TooMany] = some false
  a2 : PySem.W.kitAny K (.ref C) [.ref c_NothingToUndo, .ref c_Unreadable] = some false
  aV : PySem.W.kitOne K (.ref C) (.type "ValueError") = some true
  aW : PySem.W.kitOne K (.ref C) (.ref c_NoRows) = some bW
  aL : PySem.W.kitOne K (.ref C) (.ref c_InvalidLength) = some bL
def spFlags (K : PySem.W.Frag) (c_Contradiction c_InvalidDay c_InvalidDays c_InvalidKnown c_InvalidNumber c_InvalidRule c_TooMany c_NothingToUndo c_Unreadable c_NoRows c_InvalidLength : Addr) : Addr → Value → Option Addr → Sp := fun a cls d vs H Q _ => ∃ (C : Addr) (v : V) (bW bL : Bool), vs = [.ref a] ∧ Held K H cls d C [(("value" : Str), v)] ∧ Flag K C c_Contradiction c_InvalidDay c_InvalidDays c_InvalidKnown c_InvalidNumber c_InvalidRule c_TooMany c_NothingToUndo c_Unreadable c_NoRows c_InvalidLength bW bL ∧
  ∀ (p : Addr) (H' : Hp), Same H H' → H p = none → H' p = some (.lst [.str (rep01 "r" bW ++ rep01 "l" bL), v]) → Q (.ref p) H'
section
variable {P : Program} {w : World} {K : PySem.W.Frag} {mg : Str → Option Value} {base : Heap} {c_Contradiction c_InvalidDay c_InvalidDays c_InvalidKnown c_InvalidNumber c_InvalidRule c_TooMany c_NothingToUndo c_Unreadable c_NoRows c_InvalidLength : Addr}
theorem ok_flags {f : Addr} {fd : FuncData} (F : Fun K "_law_flags" "_law_flags" s_flags f fd) (T : Blt mg) (Y : TxY mg c_Contradiction c_InvalidDay c_InvalidDays c_InvalidKnown c_InvalidNumber c_InvalidRule c_TooMany c_NothingToUndo c_Unreadable c_NoRows c_InvalidLength) : FnP P w K mg base 2 f fd ["e"] (spFlags K c_Contradiction c_InvalidDay c_InvalidDays c_InvalidKnown c_InvalidNumber c_InvalidRule c_TooMany c_NothingToUndo c_Unreadable c_NoRows c_InvalidLength) := by
  refine fnP_of F sc_flags (fun a cls d vs H Q E h => ?_) (fun cdv A outer s H vs Q E p cls d hr hz hf h => ?_)
  · obtain ⟨C, v, bW, bL, rfl, _⟩ := h
    rfl
  · obtain ⟨a, oe⟩ := p
    obtain ⟨C, v, bW, bL, rfl, held, fl, k⟩ := h
    have hp : (a, oe) ∈ (cxH CX0 P w K mg base ["e", "odd"] "_law_flags" (defScope s_flags) f cdv A outer s H E (a, oe)).pn := List.mem_singleton.mpr rfl
    have held' : ∀ H1, Same H H1 → Held K H1 cls d C [(("value" : Str), v)] := fun H1 s1 => by
      obtain ⟨rfl, ⟨dd, rfl, e⟩, q⟩ := held
      exact ⟨rfl, ⟨dd, rfl, s1 _ _ e⟩, q⟩
    refine ⟨_, (pss_cons (ps_set (i := 1) sc_flags.nd rfl (Or.inl rfl) (pe_callB (show CallR _ _ (rIsST K a cls d) from call_isPT hp hz hf) (by rfl) T.n_isinstance boot_isinstance (pa_cons (pv 0) (pa_cons (pe_tup (pa_cons (pe_glob (v := .ref _) (by rfl) Y.g_Contradiction rfl) (pa_cons (pe_glob (v := .ref _) (by rfl) Y.g_InvalidDay rfl) (pa_cons (pe_glob (v := .ref _) (by rfl) Y.g_InvalidDays rfl) (pa_cons (pe_glob (v := .ref _) (by rfl) Y.g_InvalidKnown rfl) (pa_cons (pe_glob (v := .ref _) (by rfl) Y.g_InvalidNumber rfl) (pa_cons (pe_glob (v := .ref _) (by rfl) Y.g_InvalidRule rfl) (pa_cons (pe_glob (v := .ref _) (by rfl) Y.g_TooMany rfl) pa_nil)))))))) pa_nil))))
      (pss_cons (ps_set (i := 1) sc_flags.nd rfl (Or.inl rfl) (pe_or (pv 1) (pe_or (pe_callB (show CallR _ _ (rIsST K a cls d) from call_isPT hp hz hf) (by rfl) T.n_isinstance boot_isinstance (pa_cons (pv 0) (pa_cons (pe_tup (pa_cons (pe_glob (v := .ref _) (by rfl) Y.g_NothingToUndo rfl) (pa_cons (pe_glob (v := .ref _) (by rfl) Y.g_Unreadable rfl) pa_nil))) pa_nil))) (pe_one (pe_not (pe_callB (show CallR _ _ (rIsS K a cls d) from call_isP hp hz hf) (by rfl) T.n_isinstance boot_isinstance (pa_cons (pv 0) (pa_cons (pe_bltn (v := .ty "ValueError") (by rfl) T.n_ValueError (by decide +kernel) rfl) pa_nil))))))))
      (pss_one (ps_ret (pe_lst (pa_cons (pe_ifExp (pt_val (pv 1)) pe_str (pe_op op_add_str (pe_op op_rep01 pe_str (pe_callTy call_int1 (by rfl) T.n_int boot_int (pa_cons (pe_callB (show CallR _ _ (rIsS K a cls d) from call_isP hp hz hf) (by rfl) T.n_isinstance boot_isinstance (pa_cons (pv 0) (pa_cons (pe_glob (v := .ref _) (by rfl) Y.g_NoRows rfl) pa_nil))) pa_nil))) (pe_op op_rep01 pe_str (pe_callTy call_int1 (by rfl) T.n_int boot_int (pa_cons (pe_callB (show CallR _ _ (rIsS K a cls d) from call_isP hp hz hf) (by rfl) T.n_isinstance boot_isinstance (pa_cons (pv 0) (pa_cons (pe_glob (v := .ref _) (by rfl) Y.g_InvalidLength rfl) pa_nil))) pa_nil))))) (pa_cons (show PE _ _ (tXs K a cls d _ _) from pe_xp hp hz hf (pv 0)) pa_nil))))))), ?_⟩
    wtm_at "ev_go"
    intro tp htp
    wtm_at "ev_go"
    have s1 := Same.new (o := .tup [V.ref c_Contradiction, V.ref c_InvalidDay, V.ref c_InvalidDays, V.ref c_InvalidKnown, V.ref c_InvalidNumber, V.ref c_InvalidRule, V.ref c_TooMany]) htp
    refine ⟨C, tp, _, _, _, false, rfl, upd_same, (Paired.cons (.own _) (Paired.cons (.own _) (Paired.cons (.own _) (Paired.cons (.own _) (Paired.cons (.own _) (Paired.cons (.own _) (Paired.cons (.own _) (.nil)))))))), held' _ s1, fl.a7, ?_⟩
    wtm_at "ev_go"
    intro tq htq
    wtm_at "ev_go"
    have s2 := s1.trans (Same.new (o := .tup [V.ref c_NothingToUndo, V.ref c_Unreadable]) htq)
    refine ⟨C, tq, _, _, _, false, rfl, upd_same, (Paired.cons (.own _) (Paired.cons (.own _) (.nil))), held' _ s2, fl.a2, ?_⟩
    wtm_at "ev_go"
    refine ⟨C, _, _, _, true, rfl, .ty _, held' _ s2, fl.aV, ?_⟩
    wtm_at "ev_go"
    rw [if_neg (by decide : ¬ (!true) = true)]
    wtm_at "ev_go"
    refine ⟨C, _, _, _, bW, rfl, .own _, held' _ s2, fl.aW, ?_⟩
    wtm_at "ev_go"
    refine ⟨_, bW, rfl, rfl, ?_⟩
    wtm_at "ev_go"
    refine ⟨C, _, _, _, bL, rfl, .own _, held' _ s2, fl.aL, ?_⟩
    wtm_at "ev_go"
    refine ⟨_, bL, rfl, rfl, ?_⟩
    wtm_at "ev_go"
    refine rd_strs (by rw [sizeLine_eq]; cases bW <;> cases bL <;> decide) ?_
    wtm_at "ev_go"
    refine ⟨trivial, C, _, v, held' _ s2, fl.n, by simp [List.lookup], ?_⟩
    wtm_at "ev_go"
    exact fun p hp => k p _ (s2.trans (Same.new hp)) (s2.free hp) upd_same
end
/-! what is due, what is caught -/
inductive DueS (B : List R3) (n : Int) : PyData → Prop
  | rows (i j : Nat) : FirstConf B i j → DueS B n (.list [.str "r", .tuple [.int i, .int j]])
  | len : NoConf B → n < 1 → DueS B n (.list [.str "l", .int n])
  | fine : NoConf B → 1 ≤ n → DueS B n (.list [])
theorem DueS.eq {B : List R3} {n : Int} {D D' : PyData} (h : DueS B n D) (g : DueS B n D') : D = D' := by
  cases h with
  | rows i j f =>
    cases g with
    | rows i' j' f' =>
      obtain ⟨rfl, rfl⟩ := f.eq f'
      rfl
    | len n _ => exact absurd n f.not
    | fine n _ => exact absurd n f.not
  | len c l =>
    cases g with
    | rows i j f => exact absurd c f.not
    | len _ _ => rfl
    | fine _ l' => omega
  | fine c l =>
    cases g with
    | rows i j f => exact absurd c f.not
    | len _ l' => omega
    | fine _ _ => rfl
theorem num_big {i : Int} (h : i.natAbs < 10 ^ 40) : Num i := Nat.lt_trans h (by decide +kernel)
def spCaught (K : PySem.W.Frag) (C : Addr) : Sp := fun vs H Q _ => ∃ (a : Addr) (u lo hi n : Int) (R : List V) (rs : List R3), vs = [.int u, .ref a, .int n] ∧ BookAt C H a lo hi R rs ∧ Nums lo hi R rs ∧ Num n ∧
  ∀ (p : Addr) (D : PyData) (H' : Hp), Same H H' → H p = none → DueS ((1, lo, hi) :: rs) n D → Dp K H' (.ref p) D → Q (.ref p) H'
def gSw {α : Type} : List α → List α → List α
  | [], [x, y] => [y, x]
  | _, _ => []
section
variable {P : Program} {w : World} {K : PySem.W.Frag} {mg : Str → Option Value} {base : Heap} {cB cS c_Contradiction c_InvalidDay c_InvalidDays c_InvalidKnown c_InvalidNumber c_InvalidRule c_TooMany c_NothingToUndo c_Unreadable c_NoRows c_InvalidLength fSl fSm fFl : Addr}
theorem ok_caught {f : Addr} {fd fdSl fdSm fdFl : FuncData} (F : Fun K "_law_caught" "_law_caught" s_caught f fd) (gS : mg "SpanError" = some (.ref cS)) (emW : PySem.W.exmOne K (.ref c_NoRows) (.ref cS) = some true) (emL : PySem.W.exmOne K (.ref c_InvalidLength) (.ref cS) = some true)
    (fW : Flag K c_NoRows c_Contradiction c_InvalidDay c_InvalidDays c_InvalidKnown c_InvalidNumber c_InvalidRule c_TooMany c_NothingToUndo c_Unreadable c_NoRows c_InvalidLength true false) (fL : Flag K c_InvalidLength c_Contradiction c_InvalidDay c_InvalidDays c_InvalidKnown c_InvalidNumber c_InvalidRule c_TooMany c_NothingToUndo c_Unreadable c_NoRows c_InvalidLength false true)
    (GFl : FnP P w K mg base 2 fFl fdFl ["e"] (spFlags K c_Contradiction c_InvalidDay c_InvalidDays c_InvalidKnown c_InvalidNumber c_InvalidRule c_TooMany c_NothingToUndo c_Unreadable c_NoRows c_InvalidLength)) (mFl : mg "_law_flags" = some (.ref fFl)) (kFl : PySem.W.keepIn K (.ref fFl) = true) (bFl : Binds K fdFl ["e"] [])
    (GSl : CalX P w K mg base 4 "strictest_least" fSl fdSl ["book", "width"] (spStr cB c_NoRows c_InvalidLength strL)) (kSl : KBn K fdSl ["book", "width"] 0 ["width", "book"] gSw gSw)
    (GSm : CalX P w K mg base 4 "strictest_most" fSm fdSm ["book", "width"] (spStr cB c_NoRows c_InvalidLength strM)) (kSm : KBn K fdSm ["book", "width"] 0 ["width", "book"] gSw gSw) : FnOk P w K mg base CX0 5 f fd ["which", "made", "size"] (spCaught K cB) := by
  refine F.ok sc_caught (fun vs H Q E h => ?_) (fun cdv A outer s H vs Q E hr h => ?_)
  · obtain ⟨a, u, lo, hi, n, R, rs, rfl, _⟩ := h
    rfl
  · obtain ⟨a, u, lo, hi, n, R, rs, rfl, bk, nu, nn, q⟩ := h
    refine ⟨_, (pss_cons (ps_try_as (i := 3) (Wout := fun _ _ _ _ => False) rfl rfl sc_caught.nd rfl rfl ⟨rfl, by decide, Or.inl gS⟩ takes0 (fun W pn xe tk _ => (pss_one (ps_if (pt_cmpR op_eq (pv 0) pe_int (nomark _)) 
          (pss_one (ps_expr (pe_cX GSl hr (by decide) (Ev.passL tk rfl) (by rfl) (pa_cons (pv 1) (pa_cons (pv 2) pa_nil))))) 
          (pss_one (ps_if (pt_cmpR op_eq (pv 0) pe_int (nomark _)) 
            (pss_one (ps_expr (pe_cXK GSl hr (by decide) (Ev.passL tk rfl) (by rfl) kSl (pk_cons (pv 2) (pk_cons (pv 1) pk_nil))))) 
            (pss_one (ps_if (pt_cmpR op_eq (pv 0) pe_int (nomark _)) 
              (pss_one (ps_expr (pe_cX GSm hr (by decide) (Ev.passL tk rfl) (by rfl) (pa_cons (pv 1) (pa_cons (pv 2) pa_nil))))) 
              (pss_one (ps_expr (pe_cXK GSm hr (by decide) (Ev.passL tk rfl) (by rfl) kSm (pk_cons (pv 2) (pk_cons (pv 1) pk_nil)))))))))))) (fun a oe cls d pn hz hf => (pss_one (ps_ret (pe_callP (a := a) (oe := oe) (cls := cls) (d := d) List.mem_cons_self hz hf GFl (roomH_mark (hr.mono (by decide))) (by rfl) mFl kFl bFl (pa_cons (pv 3) pa_nil))))))
      (pss_one (ps_ret (pe_lst pa_nil)))), ?_⟩
    wtm_at "ev_go"
    generalize hE : WL _ 4 = E0'
    have su : ∀ (C d : Addr) (v : V) (H' : Hp) (bW bL : Bool), Flag K C c_Contradiction c_InvalidDay c_InvalidDays c_InvalidKnown c_InvalidNumber c_InvalidRule c_TooMany c_NothingToUndo c_Unreadable c_NoRows c_InvalidLength bW bL → PySem.W.exmOne K (.ref C) (.ref cS) = some true → Same H H' → H' d = some (.xd [(("value" : Str), v)]) →
        (∀ (p : Addr) (H'' : Hp), Same H' H'' → H p = none → H'' p = some (.lst [.str (rep01 "r" bW ++ rep01 "l" bL), v]) → Q (.ref p) H'') → E0' (.ref C) (some d) H' := by
      intro C d v H' bW bL fl em sm hd k
      rw [← hE]
      intro σ' hl
      obtain ⟨y0, y1, y2, y3, rfl⟩ := len4 hl
      refine ⟨true, em, fun oe a ha => ?_, fun z => nomatch z⟩
      simp only [List.set_cons_zero, List.set_cons_succ]
      wtm_at "ev_go"
      refine ⟨C, v, bW, bL, rfl, ⟨rfl, ⟨d, rfl, hd⟩, fl.v⟩, fl, fun p H'' s np e => ?_⟩
      wtm_at "ev_go"
      exact k p H'' s (sm.free np) e
    have w1 : rep01 "r" true ++ rep01 "l" false = ("r" : Str) := by decide +kernel
    have w2 : rep01 "r" false ++ rep01 "l" true = ("l" : Str) := by decide +kernel
    have kW : ∀ (p : Addr) (i j : Nat), H p = some (.tup [.int i, .int j]) → FirstConf ((1, lo, hi) :: rs) i j → ∀ (d : Addr) (H' : Hp), Same H H' → Raised H' d (.ref p) → E0' (.ref c_NoRows) (some d) H' := fun p i j e f d H' sm hd =>
      su c_NoRows d (.ref p) H' true false fW emW sm hd (fun p' H'' s2 hp' e' => by
        rw [w1] at e'
        exact q p' _ H'' (sm.trans s2) hp' (.rows i j f) (.lst (SqL.of e') (.cons (.str _) (.cons (.tup (SqT.of (s2 _ _ (sm _ _ e))) (.cons (.int _) (.cons (.int _) .nil))) .nil))))
    have kL : NoConf ((1, lo, hi) :: rs) → n < 1 → ∀ (d : Addr) (H' : Hp), Same H H' → Raised H' d (.int n) → E0' (.ref c_InvalidLength) (some d) H' := fun nc h1 d H' sm hd =>
      su c_InvalidLength d (.int n) H' false true fL emL sm hd (fun p' H'' s2 hp' e' => by
        rw [w2] at e'
        exact q p' _ H'' (sm.trans s2) hp' (.len nc h1) (.lst (SqL.of e') (.cons (.str _) (.cons (.int _) .nil))))
    have kF : NoConf ((1, lo, hi) :: rs) → 1 ≤ n → ∀ (p : Addr) (H' : Hp), Same H H' → H' p = none → Q (.ref p) (upd H' p (.lst [])) := fun nc h1 p H' sm hp => q p _ _ (sm.trans (Same.new hp)) (sm.free hp) (.fine nc h1) (.lst (SqL.of upd_same) .nil)
    clear hE su
    refine rd_ite (fun _ => ?_) (fun _ => ?_)
    · wtm_at "ev_go"
      refine ⟨a, lo, hi, n, R, rs, rfl, bk, nu, nn, fun nc h1 H' s => ?_, kL, kW⟩
      wtm_at "ev_go"
      exact fun p hp => kF nc h1 p H' s hp
    · wtm_at "ev_go"
      refine rd_ite (fun _ => ?_) (fun _ => ?_)
      · wtm_at "ev_go"
        refine ⟨rfl, a, lo, hi, n, R, rs, rfl, bk, nu, nn, fun nc h1 H' s => ?_, kL, kW⟩
        wtm_at "ev_go"
        exact fun p hp => kF nc h1 p H' s hp
      · wtm_at "ev_go"
        refine rd_ite (fun _ => ?_) (fun _ => ?_)
        · wtm_at "ev_go"
          refine ⟨a, lo, hi, n, R, rs, rfl, bk, nu, nn, fun nc h1 H' s => ?_, kL, kW⟩
          wtm_at "ev_go"
          exact fun p hp => kF nc h1 p H' s hp
        · wtm_at "ev_go"
          refine ⟨rfl, a, lo, hi, n, R, rs, rfl, bk, nu, nn, fun nc h1 H' s => ?_, kL, kW⟩
          wtm_at "ev_go"
          exact fun p hp => kF nc h1 p H' s hp
end
/-- the kind at k: a low, a high and a list of rules -/
def KindAt (H : Hp) (k : Addr) (lo hi : Int) (rs : List R3) : Prop := ∃ (l : Addr) (R : List V), H k = some (.tup [.int lo, .int hi, .ref l]) ∧ H l = some (.lst R) ∧ RlR H R rs ∧ R.length ≤ 100 ∧ lo.natAbs ≤ 1000 ∧ hi.natAbs ≤ 1000
theorem KindAt.mono {H H' : Hp} {k : Addr} {lo hi : Int} {rs : List R3} (h : KindAt H k lo hi rs) (s : Same H H') : KindAt H' k lo hi rs := by
  obtain ⟨l, R, h1, h2, h3, h4⟩ := h
  exact ⟨l, R, s _ _ h1, s _ _ h2, h3.mono s, h4⟩
def spLB : Sp := fun vs H Q _ => ∃ (k : Addr) (lo hi : Int) (rs : List R3), vs = [.ref k] ∧ KindAt H k lo hi rs ∧ ∀ (p : Addr) (L' : List V) (H' : Hp), Same H H' → H p = none → H' p = some (.lst L') → RlR H' L' ((1, lo, hi) :: rs) → Q (.ref p) H'

def spTorn : Sp := fun vs H Q _ => ∃ (k : Addr) (lo hi : Int) (rs : List R3), vs = [.ref k] ∧ KindAt H k lo hi rs ∧ ∀ (p : Addr) (H' : Hp), Same H H' → H p = none →
  ((NoConf ((1, lo, hi) :: rs) ∧ H' p = some (.lst [])) ∨ ∃ (t : Addr) (i j : Nat), FirstConf ((1, lo, hi) :: rs) i j ∧ H' p = some (.lst [.ref t]) ∧ H' t = some (.tup [.int i, .int j])) → Q (.ref p) H'
section
variable {P : Program} {w : World} {K : PySem.W.Frag} {mg : Str → Option Value} {base : Heap}
theorem ok_lbounds {f : Addr} {fd : FuncData} (F : Fun K "_law_bounds" "_law_bounds" s_bounds f fd) (T : Blt mg) : FnOk P w K mg base CX0 1 f fd ["kind"] spLB := by
  refine F.ok sc_bounds (fun vs H Q E h => ?_) (fun cdv A outer s H vs Q E hr h => ?_)
  · obtain ⟨k, lo, hi, rs, rfl, _⟩ := h
    rfl
  · obtain ⟨k, lo, hi, rs, rfl, ⟨l, R, hk, hl, hR, hle, c1, c2⟩, q⟩ := h
    refine ⟨_, (pss_one (ps_ret (pe_op op_cat (pe_lst (pa_cons (pe_tup (pa_cons pe_int (pa_cons (pe_ix ix_tup (pv 0) pe_int (fun _ _ => rfl)) (pa_cons (pe_ix ix_tup (pv 0) pe_int (fun _ _ => rfl)) pa_nil)))) pa_nil)) (pe_callTy call_list_of (by rfl) T.n_list boot_list (pa_cons (pe_ix ix_tup (pv 0) pe_int (fun _ _ => rfl)) pa_nil))))), ?_⟩
    wtm_at "ev_go"
    intro t ht
    wtm_at "ev_go"
    intro b hb
    have s1 := Same.new (o := .tup [V.int 1, .int lo, .int hi]) ht
    have s2 := s1.trans (Same.new (o := .lst [V.ref t]) hb)
    have hk2 := s2 _ _ hk
    have hl2 := s2 _ _ hl
    have nt : t ≠ b := ne_of_none upd_same hb
    wtm_at "ev_go"
    intro c hc
    wtm_at "ev_go"
    have s3 := s2.trans (Same.new (o := .lst R) hc)
    have nb : b ≠ c := ne_of_none upd_same hc
    have ntc : t ≠ c := ne_of_none (lk_ne nt upd_same) hc
    refine rd_cat (lk_ne nb upd_same) upd_same (by rw [List.length_cons, List.length_nil]; omega) (fun p hp => ?_)
    have s4 := s3.trans (Same.new (o := .lst ([V.ref t] ++ R)) hp)
    have ntp : t ≠ p := ne_of_none (lk_ne ntc (lk_ne nt upd_same)) hp
    exact q p _ _ s4 (s3.free hp) upd_same ((hR.mono s4).cons (lk_ne ntp (lk_ne ntc (lk_ne nt upd_same))) (num_of (by decide)) (num_of (by omega)) (num_of (by omega)))
theorem ok_torn {f : Addr} {fd : FuncData} (F : Fun K "_law_conflict" "_law_conflict" s_conflict f fd) (T : Blt mg) (GLB : CalN P w K mg base 1 "_law_bounds" spLB) : FnOk P w K mg base CX0 2 f fd ["kind"] spTorn := by
  refine F.ok sc_conflict (fun vs H Q E h => ?_) (fun cdv A outer s H vs Q E hr h => ?_)
  · obtain ⟨k, lo, hi, rs, rfl, _⟩ := h
    rfl
  · obtain ⟨k, lo, hi, rs, rfl, ka, q⟩ := h
    refine ⟨_, (pss_cons (ps_set (i := 1) sc_conflict.nd rfl (Or.inl rfl) (pe_cN GLB hr (by decide) (by rfl) (pa_cons (pv 0) pa_nil)))
      (pss_cons (ps_for PassesOwn.never rfl (pi_enum (by rfl) T.n_enumerate (pa_cons (pv 1) pa_nil)) (pg_tup rfl (pgs_cons (pg_name (i := 2) sc_conflict.nd rfl (Or.inl rfl)) (pgs_cons (pg_name (i := 3) sc_conflict.nd rfl (Or.inl rfl)) pgs_nil))) 
        (pss_one (ps_for PassesOwn.never rfl (pi_enum (by rfl) T.n_enumerate (pa_cons (pv 1) pa_nil)) (pg_tup rfl (pgs_cons (pg_name (i := 4) sc_conflict.nd rfl (Or.inl rfl)) (pgs_cons (pg_name (i := 5) sc_conflict.nd rfl (Or.inl rfl)) pgs_nil))) 
          (pss_one (ps_if (pt_cmpR op_gt (pe_op op_mulW (pe_ix ix_tup (pv 3) pe_int (fun _ _ => rfl)) (pe_ix ix_tup (pv 5) pe_int (fun _ _ => rfl))) (pe_op op_mulW (pe_ix ix_tup (pv 5) pe_int (fun _ _ => rfl)) (pe_ix ix_tup (pv 3) pe_int (fun _ _ => rfl))) (nomark _)) 
            (pss_one (ps_ret (pe_lst (pa_cons (pe_tup (pa_cons (pv 2) (pa_cons (pv 4) pa_nil))) pa_nil)))) pss_nil)))))
      (pss_one (ps_ret (pe_lst pa_nil))))), ?_⟩
    wtm_at "ev_go"
    refine ⟨k, lo, hi, rs, rfl, ka, fun p B H1 s1 _ hp hB => ?_⟩
    generalize (1, lo, hi) :: rs = Bs at hB q
    wtm_at "ev_go"
    refine rd_forE (fun i σ' H' => ∃ (x2 x3 x4 x5 : Option V), σ' = [some (.ref k), some (.ref p), x2, x3, x4, x5] ∧ Same H1 H' ∧ ∀ (j : Nat) r, j < i → Bs[j]? = some r → ∀ s ∈ Bs, r.2.1 * s.1 ≤ s.2.2 * r.1) ⟨_, _, _, _, rfl, Same.refl _, fun j _ hj => absurd hj (Nat.not_lt_zero _)⟩ (fun i σ' H' _ h => by obtain ⟨_, _, _, _, _, z, _⟩ := h; exact SqL.of (z _ _ hp)) ?_ ?_
    · rintro i v σ' H' c hx ⟨x2, x3, x4, x5, rfl, sm, al⟩ hc
      have sm2 := sm.trans (Same.new (o := .tup [.int i, v]) hc)
      obtain ⟨a, r, rfl, er, ha, nw, nl, nm⟩ := (hB.mono sm2).2 i v hx
      have hp2 := sm2 _ _ hp
      wtm_at "ev_go"
      refine rd_forE (fun i' σ' H'' => ∃ (x4 x5 : Option V), σ' = [some (.ref k), some (.ref p), some (.int i), some (.ref a), x4, x5] ∧ Same (upd H' c (.tup [.int i, .ref a])) H'' ∧ ∀ (j : Nat) s, j < i' → Bs[j]? = some s → r.2.1 * s.1 ≤ s.2.2 * r.1) ⟨_, _, rfl, Same.refl _, fun j _ hj => absurd hj (Nat.not_lt_zero _)⟩ (fun i σ' H' _ h => by obtain ⟨_, _, _, z, _⟩ := h; exact SqL.of (z _ _ hp2)) ?_ ?_
      · rintro i' v' σ' H'' c' hx' ⟨x4, x5, rfl, sm', al'⟩ hc'
        have sm3 := sm'.trans (Same.new (o := .tup [.int i', v']) hc')
        have sm4 := sm2.trans sm3
        obtain ⟨a', s, rfl, es, ha', nw', nl', nm'⟩ := (hB.mono sm4).2 i' v' hx'
        have ha3 := sm3 _ _ ha
        wtm_at "ev_go"
        refine rd_ite (fun cc => ?_) (fun cc => ?_)
        · wtm_at "ev_go"
          intro t ht
          wtm_at "ev_go"
          intro z hz
          have st := (s1.trans sm4).trans (Same.new (o := .tup [V.int i, .int i']) ht)
          exact q z _ (st.trans (Same.new hz)) (st.free hz) (.inr ⟨t, i, i', ⟨r, s, er, es, cc, al, al'⟩, upd_same, lk_ne (ne_of_none upd_same hz) upd_same⟩)
        · wtm_at "ev_go"
          refine ⟨_, _, rfl, sm3, fun j s' hj e => ?_⟩
          rcases Nat.lt_succ_iff_lt_or_eq.mp hj with h | rfl
          · exact al' j s' h e
          · rw [es] at e
            cases e
            omega
      · rintro σ' H'' ⟨x4, x5, rfl, sm', al'⟩
        refine ⟨_, _, _, _, rfl, sm2.trans sm', fun j r' hj e => ?_⟩
        rcases Nat.lt_succ_iff_lt_or_eq.mp hj with h | rfl
        · exact al j r' h e
        · rw [er] at e
          cases e
          intro s hs
          obtain ⟨j', hj'⟩ := List.getElem?_of_mem hs
          exact al' j' s (by rw [hB.1]; exact (List.getElem?_eq_some_iff.mp hj').1) hj'
    · rintro σ' H' ⟨x2, x3, x4, x5, rfl, sm, al⟩
      wtm_at "ev_go"
      intro z hz
      refine q z _ ((s1.trans sm).trans (Same.new hz)) ((s1.trans sm).free hz) (.inl ⟨fun r hr => ?_, upd_same⟩)
      obtain ⟨j, hj⟩ := List.getElem?_of_mem hr
      exact al j r (by rw [hB.1]; exact (List.getElem?_eq_some_iff.mp hj).1) hj
end
end Ev

namespace Ev
open PySem PySem.Spec PyProof.Rows L2
local macro_rules | `(tactic| wtm_at "ev_ne") => `(tactic| first | assumption | exact Ne.symm (by assumption))
local macro_rules | `(tactic| wtm_at "ev_lk") => `(tactic| first | assumption | exact upd_same | (refine lk_new' (by assumption) ?_; wtm_at "ev_lk") | (refine lk_ne (by wtm_at "ev_ne") ?_; wtm_at "ev_lk") | (refine same_lk (by assumption) ?_; wtm_at "ev_lk"))
local macro_rules | `(tactic| wtm_at "ev_sm") => `(tactic| first | assumption | exact Same.refl _ | (refine same_new ?_ (by assumption); wtm_at "ev_sm") | (refine Same.trans ?_ (by assumption); wtm_at "ev_sm"))
local macro_rules | `(tactic| wtm_at "ev_no") => `(tactic| first | assumption | exact no_back (by assumption) | (refine no_new ?_ (by wtm_at "ev_ne"); wtm_at "ev_no"))
local macro_rules | `(tactic| wtm_at "ev_sq") => `(tactic| first | assumption | exact SqL.of (by wtm_at "ev_lk") | exact SqT.of (by wtm_at "ev_lk"))
local macro_rules | `(tactic| wtm_at "ev_step") => `(tactic| with_reducible first
  | refine rd_seq ?_ | refine rd_next ?_ | refine rd_ret ?_ | refine rd_retN ?_ | refine rd_if ?_ | refine rd_drop ?_ | refine rd_asg ?_ | refine rd_name ?_ | refine rd_gsub ?_ | refine rd_gnil ?_ | refine rd_gcons ?_
  | refine rd_c ?_ | refine rd_op ?_ | refine rd_un ?_ | refine rd_rI0 ?_ | refine rd_rU ?_ | refine rd_tup ?_ | refine rd_lst ?_ | refine rd_nil ?_ | refine rd_cons ?_ | refine rd_cb ?_ | refine rd_call ?_ | refine rd_sl ?_ | refine rd_no ?_ | refine rd_part ?_
  | refine rd_test ?_ | refine rd_tB ?_ | refine rd_not ?_ | refine rd_and ?_ | refine rd_or ?_ | refine rd_notV ?_ | refine rd_andV ?_ | refine rd_orV ?_ | refine rd_ifE ?_ | refine rd_bl ?_ | refine rd_ex ?_
  | refine rd_rng1 ?_ | refine rd_overL ?_ | refine rd_overT ?_ | refine rd_forA ?_ | refine rd_forB ?_ | refine rd_forC ?_ | refine rd_lcA ?_ | refine rd_lcB ?_ | refine rd_lcC ?_ | refine rd_bm ?_ | refine rd_mkv ?_ | refine rd_xv ?_
  | refine rd_T ?_ | refine rd_F ?_ | refine rd_True ?_ | refine rd_False ?_ | refine rd_int ?_ | refine rd_intB ?_ | refine rd_one ?_ | refine rd_two ?_)
local macro_rules | `(tactic| wtm_at "ev_cond") => `(tactic| first | assumption | exact (show (0 : Int) < _ by decide) | exact (show (0 : Int) < _ by omega) | exact Or.inl ⟨by decide, by decide⟩ | exact Or.inr ⟨by decide, by decide⟩ | exact pow_cond (by decide) (by decide) (by first | decide | omega) (by first | decide | omega) | exact wide_div (b := 2000) (by first | assumption | decide | omega) (by first | decide | omega) (by decide) (by decide))
local macro_rules | `(tactic| wtm_at "ev_side") => `(tactic| first
  | ((with_reducible apply rd_var); exact rfl)
  | ((with_reducible apply rd_ixL); (wtm_at "ev_sq"); exact rfl)
  | ((with_reducible apply rd_ixT); (wtm_at "ev_sq"); exact rfl)
  | ((with_reducible apply rd_eq); exact rfl)
  | ((with_reducible apply rd_ne); exact rfl)
  | ((with_reducible apply rd_setL); (wtm_at "ev_lk"); exact rfl)
  | ((with_reducible apply rd_gtup); (wtm_at "ev_sq"); exact rfl)
  | ((with_reducible apply rd_len); (wtm_at "ev_sq"))
  | ((with_reducible apply rd_lenT); (wtm_at "ev_sq"))
  | ((with_reducible apply rd_rg); (first | decide | omega); (first | decide | omega))
  | ((with_reducible apply rd_atL); (wtm_at "ev_sq"))
  | ((with_reducible apply rd_atT); (wtm_at "ev_sq"))
  | ((with_reducible apply rd_tyL); (wtm_at "ev_sq"))
  | ((with_reducible apply rd_cat); (wtm_at "ev_lk"); (wtm_at "ev_lk"); exact Nat.le_of_ble_eq_true rfl)
  | ((with_reducible apply rd_size); exact Nat.le_of_ble_eq_true rfl)
  | ((with_reducible apply rd_rI); wtm_at "ev_cond"))
local macro_rules | `(tactic| wtm_at "ev_rd") => `(tactic| repeat (first | wtm_at "ev_step" | wtm_at "ev_side"))
local macro_rules | `(tactic| wtm_at "ev_go") => `(tactic| ((try simp only [L2.start, List.map_cons, List.map_nil, List.length_cons, List.length_nil, Nat.reduceAdd, Nat.reduceSub, List.replicate_succ, List.replicate_zero, List.cons_append, List.nil_append]); wtm_at "ev_rd"; (try simp only [List.set_cons_zero, List.set_cons_succ, upd_upd])))
local macro_rules | `(tactic| wtm_at "ev_step") => `(tactic| with_reducible first | refine rd_par ?_ | refine rd_par2 ?_ | refine rd_forD ?_)
local macro_rules | `(tactic| wtm_at "ev_side") => `(tactic| ((with_reducible apply rd_enumL); (wtm_at "ev_sq")))
local macro_rules | `(tactic| wtm_at "ev_cond") => `(tactic| exact Num.mul (by assumption) (by assumption))
local macro_rules | `(tactic| wtm_at "ev_step") => `(tactic| with_reducible first | refine rd_fld ?_ | refine rd_sfld ?_ | refine rd_tmko ?_ | refine rd_meth0 ?_ | refine rd_make ?_ | refine rd_prop ?_ | refine rd_callK0 ?_)
theorem sqT_same {K : PySem.W.Frag} {H H' : Hp} {a : Addr} {xs : List V} (h : SqT K H a xs) (e : Same H H') : SqT K H' a xs :=
  h.elim (fun h => .inl (h.elim (fun h => .inl (e _ _ h)) fun ⟨o, h⟩ => .inr ⟨o, e _ _ h⟩)) fun h => .inr h
mutual
theorem dp_mono {K : PySem.W.Frag} {H H' : Hp} (s : Same H H') : ∀ (d : PyData) (v : V), Dp K H v d → Dp K H' v d
  | .none, _, h => by cases h; exact .non
  | .bool b, _, h => by cases h; exact .bl b
  | .int i, _, h => by cases h; exact .int i
  | .str x, _, h => by cases h; exact .str x
  | .list ds, _, h => by cases h with | lst h1 h2 => exact .lst (sqL_same h1 s) (dp_monoA s ds _ h2)
  | .tuple ds, _, h => by cases h with | tup h1 h2 => exact .tup (sqT_same h1 s) (dp_monoA s ds _ h2)
  | .dict _, _, h => by cases h
theorem dp_monoA {K : PySem.W.Frag} {H H' : Hp} (s : Same H H') : ∀ (ds : List PyData) (vs : List V), DpAll K H vs ds → DpAll K H' vs ds
  | [], _, h => by cases h; exact .nil
  | d :: ds, _, h => by cases h with | cons a b => exact .cons (dp_mono s d _ a) (dp_monoA s ds _ b)
end
theorem rd_reprS {K : PySem.W.Frag} {H : Hp} {x : V} {d : PyData} {n k : Nat} {Q : VK} (h : Dp K H x d) (s : Sh d n k) (hn : n ≤ 16777216) (hk : k ≤ 100) (q : Q (.str d.shown) H) : rRepr K [x] H Q :=
  rd_repr h s.s s.h (Nat.le_trans s.e hk) (Nat.le_trans s.l (by rw [sizeLine_eq]; exact hn)) q
theorem KindAt.put {H : Hp} {k p : Addr} {lo hi n : Int} {rs : List R3} {Lp : List V} {o : HO} (h : KindAt H k lo hi rs) (hp : H p = some (.lst Lp)) (hL : PoolL Lp n) : KindAt (upd H p o) k lo hi rs := by
  obtain ⟨l, R, h1, h2, h3, h4⟩ := h
  refine ⟨l, R, lk_ne (ne_of h1 hp (fun z => by cases z)) h1, lk_ne (fun e => ?_) h2, h3.put hp, h4⟩
  subst e
  rw [h2] at hp
  cases hp
  obtain ⟨z, m, c, rfl, _⟩ := hL
  obtain ⟨b, r', e, _⟩ := h3.2 0 _ rfl
  cases e
theorem KindAt.fr {H H' : Hp} {k p : Addr} {lo hi n : Int} {rs : List R3} {Lp : List V} (h : KindAt H k lo hi rs) (hp : H p = some (.lst Lp)) (hL : PoolL Lp n) (f : Fr p H H') : KindAt H' k lo hi rs := by
  obtain ⟨l, R, h1, h2, h3, h4⟩ := h
  refine ⟨l, R, f _ _ h1 (ne_of h1 hp (fun z => by cases z)), f _ _ h2 (fun e => ?_), ⟨h3.1, fun i v e => ?_⟩, h4⟩
  · subst e
    rw [h2] at hp
    cases hp
    obtain ⟨z, m, c, rfl, _⟩ := hL
    obtain ⟨b, r', e, _⟩ := h3.2 0 _ rfl
    cases e
  · obtain ⟨a, r, q1, q2, q3, q4⟩ := h3.2 i v e
    exact ⟨a, r, q1, q2, f _ _ q3 (ne_of q3 hp (fun z => by cases z)), q4⟩
theorem Sh.big {i : Int} (h : i.natAbs < 10 ^ 40) : Sh (.int i) 41 0 := by
  refine ⟨?_, by simp only [PyData.hasDict], by simp [PyData.depth], ?_⟩
  · have hb : i.natAbs.log2 < 1920 := by
      have e : (10 : Nat) ^ 40 < 2 ^ 1900 := by decide +kernel
      exact Nat.lt_of_lt_of_le (PySem.Flt.log2_lt_of (by decide) (Nat.lt_trans h e)) (by decide)
    simpa [PyData.showable] using hb
  · have e : (PyData.int i).shown = Str.ofString (toString i) := by simp only [PyData.shown]
    rw [e, PySem.ofString_length]
    exact int_text_length_le10 (by decide) h

theorem DueS.sh {B : List R3} {n : Int} {D : PyData} (h : DueS B n D) (hB : B.length ≤ 1000) (hn : n.natAbs < 10 ^ 40) : Sh D 200 2 := by
  cases h with
  | rows i j f =>
    obtain ⟨r, s, h1, h2, _⟩ := f
    have a := (List.getElem?_eq_some_iff.mp h1).1
    have b := (List.getElem?_eq_some_iff.mp h2).1
    refine (Sh.list (n := 24) (k := 1) (ds := [.str "r", .tuple [.int i, .int j]]) fun d hd => ?_).mono (Nat.le_of_ble_eq_true rfl) (by decide)
    simp only [List.mem_cons, List.not_mem_nil, or_false] at hd
    rcases hd with rfl | rfl
    · exact (Sh.str1 _ (by decide +kernel)).mono (by decide) (by decide)
    · exact Sh.tup (n := 10) (k := 0) (ds := []) fun x hx => by
        simp only [List.mem_cons, List.not_mem_nil, or_false] at hx
        rcases hx with rfl | rfl
        · exact Sh.int (by omega)
        · exact Sh.int (by omega)
  | len _ _ =>
    refine (Sh.list (n := 41) (k := 0) (ds := [.str "l", .int n]) fun d hd => ?_).mono (Nat.le_of_ble_eq_true rfl) (by decide)
    simp only [List.mem_cons, List.not_mem_nil, or_false] at hd
    rcases hd with rfl | rfl
    · exact (Sh.str1 _ (by decide +kernel)).mono (by decide) (by decide)
    · exact Sh.big hn
  | fine _ _ => exact (Sh.list (n := 10) (k := 0) (ds := []) fun d hd => by cases hd).mono (by decide) (by decide)
def spRight : Sp := fun vs H Q _ => ∃ (p : Addr) (L : List V) (n : Int), vs = [.ref p] ∧ H p = some (.lst L) ∧ PoolL L n ∧ n ≤ 100000 ∧ ∀ (H' : Hp) (L' : List V), Fr p H H' → H' p = some (.lst L') → PoolL L' (n + 2000) → Q (.bl true) H'
section
variable {P : Program} {w : World} {K : PySem.W.Frag} {mg : Str → Option Value} {base : Heap} {fI cD cR cB fB fN fQ : Addr}
set_option maxHeartbeats 8000000 in
theorem ok_right {f : Addr} {fd fdQ : FuncData} (F : Fun K "_law_right" "_law_right" s_right f fd) (T : TxB K mg fI cD cR cB fB fN) (GD : CalN P w K mg base 1 "_law_draw" spDraw) (GK : CalN P w K mg base 2 "_law_kind" spKind)
    (GM : CalN P w K mg base 6 "_law_made" (spMade cB)) (GCO : CalN P w K mg base 2 "_law_conflict" spTorn) (GCA : CalN P w K mg base 5 "_law_caught" (spCaught K cB))
    (GQ : FnOk P w K mg base CX0 1 fQ fdQ ["self", "other"] (spEq (TwoB cB))) (sQ : PySem.W.findIn K (.ref cB) "__eq__" = some (some (.ref fQ))) (kQ : PySem.W.isFn K (.ref fQ) = true) (bQ : Binds K fdQ ["self", "other"] []) : FnG P w K mg base CX0 8 f fd ["pool"] spRight := by
  refine fnG_of F sc_right (fun vs H Q E h => ?_) (fun cdv A outer s H vs Q E hgu hr h => ?_)
  · obtain ⟨p, L, n, rfl, _⟩ := h
    rfl
  · obtain ⟨p, L, n, rfl, hp, hL, hn, k⟩ := h
    refine ⟨_, (pss_cons (ps_set (i := 1) sc_right.nd rfl (Or.inl rfl) (pe_cN GK hr (by decide) (by rfl) (pa_cons (pv 0) (pa_cons pe_int (pa_cons pe_int pa_nil)))))
      (C8.pss_cut (ps_if (pt_cmpR op_eq (pe_cN GD hr (by decide) (by rfl) (pa_cons (pv 0) (pa_cons pe_int pa_nil))) pe_int (nomark _)) 
        (pss_cons (ps_par (i := 2) (j := 3) (by rfl) sc_right.nd rfl rfl (by decide) rfl rfl (pa_cons (pe_op op_add pe_int (pe_cN GD hr (by decide) (by rfl) (pa_cons (pv 0) (pa_cons pe_int pa_nil)))) (pa_cons (pe_op op_sub (pe_cN GD hr (by decide) (by rfl) (pa_cons (pv 0) (pa_cons pe_int pa_nil))) pe_int) pa_nil)) (by rfl))
        (pss_one (ps_set (i := 1) sc_right.nd rfl (Or.inl rfl) (pe_tup (pa_cons (pe_ix ix_tup (pv 1) pe_int (fun _ _ => rfl)) (pa_cons (pe_ix ix_tup (pv 1) pe_int (fun _ _ => rfl)) (pa_cons (pe_op op_cat (pe_ix ix_tup (pv 1) pe_int (fun _ _ => rfl)) (pe_lst (pa_cons (pe_tup (pa_cons (pv 2) (pa_cons (pv 3) (pa_cons (pe_op op_add (pv 3) (pe_cN GD hr (by decide) (by rfl) (pa_cons (pv 0) (pa_cons pe_int pa_nil)))) pa_nil)))) pa_nil))) pa_nil))))))) pss_nil)
      (pss_cons (ps_par (i := 4) (j := 5) (by rfl) sc_right.nd rfl rfl (by decide) rfl rfl (pa_cons (pe_cN GM hr (by decide) (by rfl) (pa_cons (pv 1) pa_nil)) (pa_cons (pe_cN GCO hr (by decide) (by rfl) (pa_cons (pv 1) pa_nil)) pa_nil)) (by rfl))
      (pss_cons (ps_for PassesOwn.never rfl (pi_tup (pe_tup (pa_cons pe_int (pa_cons pe_int (pa_cons pe_int (pa_cons (pe_un un_neg pe_int) (pa_cons (pe_op op_sub pe_int (pe_cN GD hr (by decide) (by rfl) (pa_cons (pv 0) (pa_cons (pe_op op_powW pe_int pe_int) pa_nil)))) pa_nil))))))) (pg_name (i := 2) sc_right.nd rfl (Or.inl rfl)) 
        (pss_cons (ps_set (i := 6) sc_right.nd rfl (Or.inl rfl) (pe_lst pa_nil))
        (C8.pss_cut (ps_if (pt_cmpR (op_neD (hun64 hr)) (pv 5) (pe_lst pa_nil) (nomark _)) 
          (pss_one (ps_set (i := 6) sc_right.nd rfl (Or.inl rfl) (pe_lst (pa_cons pe_str (pa_cons (pe_ix ix_list (pv 5) pe_int (fun _ _ => rfl)) pa_nil))))) 
          (pss_one (ps_if (pt_cmpR op_lt (pv 2) pe_int (nomark _)) 
            (pss_one (ps_set (i := 6) sc_right.nd rfl (Or.inl rfl) (pe_lst (pa_cons pe_str (pa_cons (pv 2) pa_nil))))) pss_nil)))
        (pss_one (ps_for PassesOwn.never rfl (pi_range1 (by rfl) T.b.n_range (pa_cons pe_int pa_nil)) (pg_name (i := 7) sc_right.nd rfl (Or.inl rfl)) 
          (pss_one (ps_if (pt_cmpR op_ne (pe_callB (call_repr_data hgu (hun hr)) (by rfl) T.b.n_repr boot_repr (pa_cons (pe_cN GCA hr (by decide) (by rfl) (pa_cons (pv 7) (pa_cons (pv 4) (pa_cons (pv 2) pa_nil)))) pa_nil)) (pe_callB (call_repr_data hgu (hun hr)) (by rfl) T.b.n_repr boot_repr (pa_cons (pv 6) pa_nil)) (nomark _)) 
            (pss_one (ps_ret pe_bl)) pss_nil)))))))
      (pss_one (ps_ret (pe_cmpR (op_eqG (rcG_ins GQ sQ kQ bQ pass0) (hr.mono (by decide))) (pv 4) (pe_cN GM hr (by decide) (by rfl) (pa_cons (pv 1) pa_nil)) (nomark _)))))))), ?_⟩
    wtm_at "ev_go"
    refine ⟨p, L, n, 8, 3, rfl, hp, hL, by omega, by decide, by decide, by decide, by decide, fun kd l L1 R rs lo hi H1 fr1 hp1 hL1 hkd nkd hl nl ne hR hlen lo1 lohi hi1 hW hSh => ?_⟩
    have nkp : kd ≠ p := (ne_of_none hp nkd).symm
    have nlp : l ≠ p := (ne_of_none hp nl).symm
    have fine := hSh.fine hW
    wtm_at "ev_go"
    refine rd_cut (fun σ' H' => ∃ (x2 x3 : Option V) (kd : Addr) (L' : List V) (rs : List R3) (lo hi : Int), σ' = [some (.ref p), some (.ref kd), x2, x3, none, none, none, none] ∧ H' p = some (.lst L') ∧ PoolL L' (n + 1010) ∧ Fr p H H' ∧ KindAt H' kd lo hi rs ∧ lo ≤ hi ∧ Fine rs) ?_ ?_
    · wtm_at "ev_go"
      refine rd_draw (by wtm_at "ev_lk") hL1 (by omega) (by decide) (by decide +kernel) (fun d1 Ld1 ad1 bd1 hLd1 => ?_)
      have hkd1 : upd H1 p (.lst Ld1) kd = some (.tup [.int lo, .int hi, .ref l]) := lk_ne nkp hkd
      have hl1 : upd H1 p (.lst Ld1) l = some (.lst R) := lk_ne nlp hl
      have hp2 : upd H1 p (.lst Ld1) p = some (.lst Ld1) := upd_same
      have hR1 : RlR (upd H1 p (.lst Ld1)) R rs := hR.put hp1
      have fr2 : Fr p H (upd H1 p (.lst Ld1)) := fr1.put
      generalize upd H1 p (.lst Ld1) = H2 at hkd1 hl1 hp2 hR1 fr2 ⊢
      wtm_at "ev_go"
      refine rd_ite (fun hz => ?_) (fun hz => ?_)
      · wtm_at "ev_go"
        refine rd_draw (by wtm_at "ev_lk") hLd1 (by omega) (by decide) (by decide +kernel) (fun d2 Ld2 ad2 bd2 hLd2 => ?_)
        have hkd3 : upd H2 p (.lst Ld2) kd = _ := lk_ne nkp hkd1
        have hl3 : upd H2 p (.lst Ld2) l = _ := lk_ne nlp hl1
        have hp3 : upd H2 p (.lst Ld2) p = some (.lst Ld2) := upd_same
        have hR3 : RlR (upd H2 p (.lst Ld2)) R rs := hR1.put hp2
        have fr3 : Fr p H (upd H2 p (.lst Ld2)) := fr2.put
        generalize upd H2 p (.lst Ld2) = H3 at hkd3 hl3 hp3 hR3 fr3 ⊢
        wtm_at "ev_go"
        refine rd_draw (by wtm_at "ev_lk") hLd2 (by omega) (by decide) (by decide +kernel) (fun d3 Ld3 ad3 bd3 hLd3 => ?_)
        have hkd4 : upd H3 p (.lst Ld3) kd = _ := lk_ne nkp hkd3
        have hl4 : upd H3 p (.lst Ld3) l = _ := lk_ne nlp hl3
        have hp4 : upd H3 p (.lst Ld3) p = some (.lst Ld3) := upd_same
        have hR4 : RlR (upd H3 p (.lst Ld3)) R rs := hR3.put hp3
        have fr4 : Fr p H (upd H3 p (.lst Ld3)) := fr3.put
        generalize upd H3 p (.lst Ld3) = H4 at hkd4 hl4 hp4 hR4 fr4 ⊢
        wtm_at "ev_go"
        refine rd_draw (by wtm_at "ev_lk") hLd3 (by omega) (by decide) (by decide +kernel) (fun d4 Ld4 ad4 bd4 hLd4 => ?_)
        have hkd5 : upd H4 p (.lst Ld4) kd = _ := lk_ne nkp hkd4
        have hl5 : upd H4 p (.lst Ld4) l = _ := lk_ne nlp hl4
        have hp5 : upd H4 p (.lst Ld4) p = some (.lst Ld4) := upd_same
        have hR5 : RlR (upd H4 p (.lst Ld4)) R rs := hR4.put hp4
        have fr5 : Fr p H (upd H4 p (.lst Ld4)) := fr4.put
        generalize upd H4 p (.lst Ld4) = H5 at hkd5 hl5 hp5 hR5 fr5 ⊢
        wtm_at "ev_go"
        generalize hfew : d3 - 20 = few
        intro t ht
        have st := Same.new (o := .tup [V.int (1 + d2), .int few, .int (few + d4)]) ht
        wtm_at "ev_go"
        intro q hq
        have sq := st.trans (Same.new (o := .lst [V.ref t]) hq)
        have hl6 := sq _ _ hl5
        have nt : t ≠ q := ne_of_none upd_same hq
        wtm_at "ev_go"
        refine rd_cat hl6 upd_same (by rw [hR5.1, List.length_cons, List.length_nil]; omega) (fun z hz' => ?_)
        have sz := sq.trans (Same.new (o := .lst (R ++ [V.ref t])) hz')
        have ntz : t ≠ z := ne_of_none (lk_ne nt upd_same) hz'
        wtm_at "ev_go"
        intro kd' hkd'
        have sk := sz.trans (Same.new (o := .tup [V.int lo, .int hi, .ref z]) hkd')
        have ntk : t ≠ kd' := ne_of_none (lk_ne ntz (lk_ne nt upd_same)) hkd'
        have nzk : z ≠ kd' := ne_of_none upd_same hkd'
        wtm_at "ev_go"
        refine ⟨_, _, kd', Ld4, rs ++ [(1 + d2, few, few + d4)], lo, hi, rfl, sk _ _ hp5, hLd4.le (by omega), fr5.same sk, ⟨z, R ++ [.ref t], upd_same, lk_ne nzk upd_same, (hR5.mono sk).add (lk_ne ntk (lk_ne ntz (lk_ne nt upd_same))) (num_of (by omega)) (num_of (by omega)) (num_of (by omega)), by rw [List.length_append, hR5.1, List.length_singleton]; omega, by omega, by omega⟩, lohi, fun j r' e => ?_⟩
        rw [List.getElem?_append] at e
        by_cases hj : j < rs.length
        · rw [if_pos hj] at e
          exact fine j r' e
        · rw [if_neg hj] at e
          rw [List.mem_singleton.mp (List.mem_of_getElem? e)]
          unfold okR
          rw [decide_eq_true (show 1 ≤ 1 + d2 by omega), decide_eq_true (show few ≤ few + d4 by omega)]
          rfl
      · wtm_at "ev_go"
        exact ⟨_, _, kd, Ld1, rs, lo, hi, rfl, hp2, hLd1.le (by omega), fr2, ⟨l, R, hkd1, hl1, hR1, by rw [hR1.1]; omega, by omega, by omega⟩, lohi, fine⟩
    · clear hSh hW fine nkp nlp hlen hR ne nl hl nkd hkd hL1 hp1 fr1 lo1 lohi hi1
      clear lo hi rs R L1 l kd H1
      rintro σ' H1 ⟨x2, x3, kd, L1, rs, lo, hi, rfl, hp1, hL1, fr1, ka, lohi, fine⟩
      obtain ⟨l, R, hkd, hl, hR, hle, c1, c2⟩ := id ka
      have wide := fine.wide (lo := lo) (hi := hi)
      have num_l : Num lo := num_of (by omega)
      have num_h : Num hi := num_of (by omega)
      have nums : Nums lo hi R rs := ⟨by omega, num_l, num_h, wide⟩
      have hB1000 : ((1, lo, hi) :: rs).length ≤ 1000 := by rw [List.length_cons, ← hR.1]; omega
      wtm_at "ev_go"
      refine ⟨kd, l, lo, hi, R, rs, rfl, hkd, hl, hR, by omega, num_l, num_h, lohi, fine, fun a H2 s2 na bk => ?_⟩
      wtm_at "ev_go"
      refine ⟨kd, lo, hi, rs, rfl, ka.mono s2, fun tn H3 s3 ntn torn => ?_⟩
      have s13 := s2.trans s3
      have bk3 := bk.mono s3
      have ka3 := ka.mono s13
      have hp3 := s13 _ _ hp1
      have fr3 := fr1.same s13
      clear hkd hl hR ka hp1 fr1 bk s2 s3 s13
      wtm_at "ev_go"
      refine rd_draw (by wtm_at "ev_lk") hL1 (by omega) (by decide) (by decide +kernel) (fun d5 Ld5 ad5 bd5 hLd5 => ?_)
      have bd30 : d5 < 1000000000000000000000000000000 := by
        rw [show ((10 : Int) ^ Int.toNat 30) = 1000000000000000000000000000000 by decide +kernel] at bd5
        exact bd5
      have ka4 := ka3.put (o := .lst Ld5) hp3 hL1
      have bk4 := bk3.put (o := .lst Ld5) hp3 hL1
      have fr4 : Fr p H (upd H3 p (.lst Ld5)) := fr3.put
      have hp4 : upd H3 p (.lst Ld5) p = some (.lst Ld5) := upd_same
      have torn4 : (NoConf ((1, lo, hi) :: rs) ∧ upd H3 p (.lst Ld5) tn = some (.lst [])) ∨ ∃ (t : Addr) (i j : Nat), FirstConf ((1, lo, hi) :: rs) i j ∧ upd H3 p (.lst Ld5) tn = some (.lst [.ref t]) ∧ upd H3 p (.lst Ld5) t = some (.tup [.int i, .int j]) := by
        have np : ∀ xs, H3 tn = some (.lst xs) → xs.length < 3 → tn ≠ p := fun xs e lx z => by
          rw [z, hp3] at e
          cases e
          obtain ⟨z1, m, c, rfl, _⟩ := hL1
          exact absurd lx (by show ¬ 3 < 3; decide)
        rcases torn with ⟨nc, e⟩ | ⟨t, i, j, f, e, e2⟩
        · exact .inl ⟨nc, lk_ne (np _ e (by decide)) e⟩
        · exact .inr ⟨t, i, j, f, lk_ne (np _ e (by show 1 < 3; decide)) e, lk_ne (ne_of e2 hp3 (fun z => by cases z)) e2⟩
      clear torn
      generalize upd H3 p (.lst Ld5) = H4 at ka4 bk4 fr4 hp4 torn4 ⊢
      clear ka3 bk3 fr3 hp3
      wtm_at "ev_go"
      intro tw htw
      have stw := Same.new (o := .tup [V.int 1, .int 40, .int 0, .int (-1), .int (0 - d5)]) htw
      wtm_at "ev_go"
      have five : ∀ (i : Nat) x, [V.int 1, .int 40, .int 0, .int (-1), .int (0 - d5)][i]? = some x → ∃ z : Int, x = .int z ∧ z.natAbs < 10 ^ 40 := by
        intro i x e
        rcases i with _ | _ | _ | _ | _ | i
        · cases e; exact ⟨1, rfl, by decide⟩
        · cases e; exact ⟨40, rfl, by decide⟩
        · cases e; exact ⟨0, rfl, by decide⟩
        · cases e; exact ⟨-1, rfl, by decide⟩
        · cases e; exact ⟨0 - d5, rfl, by omega⟩
        · cases e
      refine rd_forT (fun i σ' H' => ∃ (x2 x6 x7 : Option V), σ' = [some (.ref p), some (.ref kd), x2, x3, some (.ref a), some (.ref tn), x6, x7] ∧ Same (upd H4 tw (.tup [V.int 1, .int 40, .int 0, .int (-1), .int (0 - d5)])) H') ⟨_, _, _, rfl, Same.refl _⟩ (fun i σ' H' _ h => by obtain ⟨_, _, _, _, z⟩ := h; exact SqT.of (z _ _ upd_same)) ?_ ?_
      · rintro i x σ' H5 hx ⟨x2, x6, x7, rfl, sm⟩
        obtain ⟨sz, rfl, hsz⟩ := five i x hx
        have s45 := stw.trans sm
        have bk5 := bk4.mono s45
        have torn5 : (NoConf ((1, lo, hi) :: rs) ∧ H5 tn = some (.lst [])) ∨ ∃ (t : Addr) (i j : Nat), FirstConf ((1, lo, hi) :: rs) i j ∧ H5 tn = some (.lst [.ref t]) ∧ H5 t = some (.tup [.int i, .int j]) := by
          rcases torn4 with ⟨nc, e⟩ | ⟨t, i, j, f, e, e2⟩
          · exact .inl ⟨nc, s45 _ _ e⟩
          · exact .inr ⟨t, i, j, f, s45 _ _ e, s45 _ _ e2⟩
        wtm_at "ev_go"
        intro du hdu
        have sdu := Same.new (o := .lst []) hdu
        wtm_at "ev_go"
        refine rd_cut (fun σ'' H'' => ∃ (dq : Addr) (D : PyData), σ'' = [some (.ref p), some (.ref kd), some (.int sz), x3, some (.ref a), some (.ref tn), some (.ref dq), x7] ∧ Same H5 H'' ∧ DueS ((1, lo, hi) :: rs) sz D ∧ Dp K H'' (.ref dq) D) ?_ ?_
        · rcases torn5 with ⟨nc, e⟩ | ⟨t, i, j, f, e, e2⟩
          · wtm_at "ev_go"
            intro o ho
            have so := sdu.trans (Same.new (o := .lst []) ho)
            wtm_at "ev_go"
            refine ⟨.list [], .list [], .lst (SqL.of (so _ _ e)) .nil, .lst (SqL.of upd_same) .nil, by decide +kernel, by decide +kernel, ?_⟩
            rw [show PyData.eqv (.list []) (.list []) = true by decide +kernel]
            wtm_at "ev_go"
            rw [if_neg (by decide : ¬ (!true) = true)]
            wtm_at "ev_go"
            refine rd_ite (fun c => ?_) (fun c => ?_)
            · wtm_at "ev_go"
              intro d2 hd2
              wtm_at "ev_go"
              exact ⟨d2, _, rfl, so.trans (Same.new hd2), .len nc c, .lst (SqL.of upd_same) (.cons (.str _) (.cons (.int _) .nil))⟩
            · wtm_at "ev_go"
              exact ⟨du, _, rfl, so, .fine nc (by omega), .lst (SqL.of (lk_ne (ne_of_none upd_same ho) upd_same)) .nil⟩
          · wtm_at "ev_go"
            intro o ho
            have so := sdu.trans (Same.new (o := .lst []) ho)
            wtm_at "ev_go"
            refine ⟨.list [.tuple [.int i, .int j]], .list [], .lst (SqL.of (so _ _ e)) (.cons (.tup (SqT.of (so _ _ e2)) (.cons (.int _) (.cons (.int _) .nil))) .nil), .lst (SqL.of upd_same) .nil, by simp [SeqAt.shaped, PyData.canLay0, PyData.canLayAll0, PyData.depth, PyData.depthAll], by decide +kernel, ?_⟩
            rw [show PyData.eqv (.list [.tuple [.int i, .int j]]) (.list []) = false by simp [PyData.eqv, PyData.eqvAll]]
            have e' := so _ _ e
            have e2' := so _ _ e2
            wtm_at "ev_go"
            rw [if_pos (by decide : (!false) = true)]
            wtm_at "ev_go"
            intro d2 hd2
            wtm_at "ev_go"
            exact ⟨d2, _, rfl, so.trans (Same.new hd2), .rows i j f, .lst (SqL.of upd_same) (.cons (.str _) (.cons (.tup (SqT.of (Same.new hd2 _ _ e2')) (.cons (.int _) (.cons (.int _) .nil))) .nil))⟩
        · rintro σ'' H6 ⟨dq, D, rfl, s56, due, dpD⟩
          wtm_at "ev_go"
          refine rd_forR (fun j σ3 H7 => ∃ (x7 : Option V), σ3 = [some (.ref p), some (.ref kd), some (.int sz), x3, some (.ref a), some (.ref tn), some (.ref dq), x7] ∧ Same H6 H7) ⟨_, rfl, Same.refl _⟩ ?_ ?_
          · rintro j σ3 H7 hj ⟨x7, rfl, s67⟩
            wtm_at "ev_go"
            refine ⟨a, _, lo, hi, sz, R, rs, rfl, bk5.mono (s56.trans s67), nums, num_big hsz, fun pc D' H8 s78 np due' dp' => ?_⟩
            obtain rfl := due.eq due'
            wtm_at "ev_go"
            refine rd_reprS dp' (due.sh hB1000 hsz) (by decide) (by decide) ?_
            wtm_at "ev_go"
            refine rd_reprS (dp_mono (s67.trans s78) _ _ dpD) (due.sh hB1000 hsz) (by decide) (by decide) ?_
            wtm_at "ev_go"
            rw [if_neg (by simp)]
            wtm_at "ev_go"
            exact ⟨_, rfl, s67.trans s78⟩
          · rintro σ3 H7 ⟨x7, rfl, s67⟩
            exact ⟨_, _, _, rfl, (sm.trans s56).trans s67⟩
      · rintro σ' H5 ⟨x2, x6, x7, rfl, sm⟩
        have s45 := stw.trans sm
        obtain ⟨l', R', hkd', hl', hR', hle', _, _⟩ := ka4.mono s45
        wtm_at "ev_go"
        refine ⟨kd, l', lo, hi, R', rs, rfl, hkd', hl', hR', by omega, num_l, num_h, lohi, fine, fun a2 H6 s6 na2 bk6 => ?_⟩
        wtm_at "ev_go"
        refine two_ok (bk4.mono (s45.trans s6)) bk6 (fun H7 s7 => ?_)
        wtm_at "ev_go"
        exact k _ Ld5 (fr4.same ((s45.trans s6).trans s7)) (((s45.trans s6).trans s7) _ _ hp4) (hLd5.le (by omega))
end
/-! ### the law itself -/
def spLaw (K : PySem.W.Frag) : Sp := fun vs H Q _ => ∃ (a : Addr) (ns : List Int), vs = [.ref a] ∧ SqL K H a (ns.map V.int) ∧ ns.length ≤ 63 ∧ ∀ H', Q (.bl true) H'
section
variable {P : Program} {w : World} {K : PySem.W.Frag} {mg : Str → Option Value} {base : Heap}
theorem ok_law {f : Addr} {fd : FuncData} (F : Fun K "law" "law" s_law f fd) (T : Blt mg) (GP : CalN P w K mg base 1 "_law_pool" (spPool K)) (GR : CalG P w K mg base 8 "_law_right" spRight) : FnG P w K mg base CX0 9 f fd ["script"] (spLaw K) := by
  refine fnG_of F sc_law (fun vs H Q E h => ?_) (fun cdv A outer s H vs Q E hgu hr h => ?_)
  · obtain ⟨a, ns, rfl, _⟩ := h
    rfl
  · obtain ⟨a, ns, rfl, hS, hn, k⟩ := h
    refine ⟨_, (pss_cons (ps_for PassesOwn.never rfl (pi_range1 (by rfl) T.n_range (pa_cons (pe_callB (call_max2 rfl) (by rfl) T.n_max boot_max (pa_cons pe_int (pa_cons (pe_callB (call_min2 rfl) (by rfl) T.n_min boot_min (pa_cons pe_int (pa_cons (pe_callB call_len_seq (by rfl) T.n_len PySem.boot_len (pa_cons (pv 0) pa_nil)) pa_nil))) pa_nil))) pa_nil)) (pg_name (i := 1) sc_law.nd rfl (Or.inl rfl)) 
        (pss_cons (ps_set (i := 2) sc_law.nd rfl (Or.inl rfl) (pe_cN GP hr (by decide) (by rfl) (pa_cons (pv 0) (pa_cons (pv 1) pa_nil))))
        (pss_one (ps_for PassesOwn.never rfl (pi_range1 (by rfl) T.n_range (pa_cons pe_int pa_nil)) (pg_name (i := 3) sc_law.nd rfl (Or.inl rfl)) 
          (pss_one (ps_if (pt_not (pt_val (pe_cG GR hr (by decide) hgu (by rfl) (pa_cons (pv 2) pa_nil)))) 
            (pss_one (ps_ret pe_bl)) pss_nil))))))
      (pss_one (ps_ret pe_bl))), ?_⟩
    wtm_at "ev_go"
    generalize e : Int.toNat _ = n
    have n6 : n ≤ 6 := by
      rw [← e]
      generalize ((ns.map V.int).length : Int) = z
      by_cases z6 : z < 6
      · rw [if_pos z6]
        by_cases z1 : z > 1
        · rw [if_pos z1]
          omega
        · rw [if_neg z1]
          decide
      · rw [if_neg z6]
        decide
    clear e
    refine rd_forR (fun i σ H2 => ∃ (x1 x2 x3 : Option V), σ = [some (.ref a), x1, x2, x3] ∧ SqL K H2 a (ns.map V.int)) ⟨_, _, _, rfl, hS⟩ ?_ ?_
    · rintro i σ H2 hi ⟨x1, x2, x3, rfl, hS2⟩
      wtm_at "ev_go"
      refine ⟨a, ns, _, rfl, hS2, by omega, by omega, fun p L np hL => ?_⟩
      wtm_at "ev_go"
      refine rd_forR (fun j σ' H' => ∃ (x3 : Option V) (L' : List V), σ' = [some (.ref a), some (.int (0 + (i : Int))), some (.ref p), x3] ∧ Same H2 H' ∧ H' p = some (.lst L') ∧ PoolL L' ((j : Int) * 2000)) ⟨_, L, rfl, fun b o z => Same.new np b o z, upd_same, hL.le (by omega)⟩ ?_ ?_
      · rintro j σ' H' hj ⟨x3, L', rfl, ex, hp, hL'⟩
        wtm_at "ev_go"
        refine ⟨p, L', _, rfl, hp, hL', by omega, fun H3 L3 fr hp3 hL3 => ?_⟩
        wtm_at "ev_go"
        exact ⟨_, L3, rfl, fun b o z => fr b o (ex b o z) (ne_of_none z np), hp3, hL3.le (by omega)⟩
      · rintro σ' H' ⟨x3, L', rfl, ex, _⟩
        exact ⟨_, _, _, rfl, sqL_same hS2 ex⟩
    · rintro σ' H' ⟨x1, x2, x3, rfl, _⟩
      wtm_at "ev_go"
      exact k H'
end
end Ev

namespace Ev
open PySem PySem.Spec PyProof.Rows L2
/-! ### the end: what the written part says -/
theorem cls_mk {K : PySem.W.Frag} {h : Heap} {mg : Str → Option Value} {x : Str} {C fI : Addr} {nm q : Str} {N : Addr} {bs bm : List Value} {sl : List Str} {sub : List Value} {ab : Bool} {col : Option Bool} {dd : Option Addr} {m0 m1 m2 m3 m5 : Option Value} (X : K.In h) (G : h.Ns mainGlobals mg)
    (a : PySem.W.nsIn K mainGlobals x = some (some (.ref C)))
    (xl : K.lookup C = some (excClassObj nm q C N bs bm true sl sub ab col dd m0 m1 m2 m3 m5 "ValueError.__new__"))
    (rb : PySem.HandSPX.refsVE bm = true)
    (sa : PySem.W.findIn K (.ref C) "__setattr__" = some (some (.builtin "object.__setattr__")))
    (ec : PySem.W.subIn K (.ref C) (.type "BaseException") = some true)
    (ty : PySem.W.typeIn K (.ref C) = some (.type "type"))
    (kc : PySem.W.keepIn K (.ref C) = true)
    (i : PySem.W.findIn K (.ref C) "__init__" = some (some (.ref fI)))
    (t : PySem.W.typeIn K (.ref fI) = some (.type "function"))
    (ga : PySem.W.findIn K (.ref C) "__getattribute__" = some (some (.builtin "BaseException.__getattribute__")))
    (gg : PySem.W.findIn K (.ref C) "__getattr__" = some none)
    (hd : PySem.W.hasDictIn K C = true)
    (ac : PySem.W.findIn K (.ref C) "__class__" = some (some (.builtin "object.__class__")))
    (sn : PySem.W.specialIn K (.builtin "object.__class__") "__get__" = some (some (.builtin "getset_descriptor.__get__")))
    (tk : PySem.W.takesIn K (.builtin "object.__class__") = some true)
    (mr : PySem.W.mroIn K C (.type "object") = some true)
    (vn : PySem.W.findIn K (.ref C) "value" = some none) : ExT K mg x C fI :=
  ⟨⟨⟨nm, q, N, bs, bm, sl, sub, ab, col, dd, m0, m1, m2, m3, m5, xl, rb⟩, sa, ec, ty, kc⟩, i, t, PySem.W.mg_of X G a, ⟨ga, gg, ec, hd, ac, sn, tk, mr⟩, vn⟩
theorem gSw_rel {vs zs : List V} {us ws : List Value} (r1 : Vals vs us) (r2 : Vals zs ws) : Vals (gSw vs zs) (gSw us ws) := by
  cases r1 with
  | nil =>
    cases r2 with
    | nil => exact .nil
    | cons h1 t1 =>
      cases t1 with
      | nil => exact .nil
      | cons h2 t2 =>
        cases t2 with
        | nil => exact .cons h2 (.cons h1 .nil)
        | cons _ _ => exact .nil
  | cons h t => exact .nil
section
variable {P : Program} {w : World} {K : PySem.W.Frag} {mg : Str → Option Value} {base : Heap} {fI : Addr}
theorem ok_init {fd : FuncData} (F : Fun K "__init__" "SpanError.__init__" s_SpanError_init fI fd) : FnOk P w K mg base CX0 1 fI fd ["self", "value"] (spInit K) := by
  refine F.ok sc_SpanError_init (fun vs H Q E h => ?_) (fun cdv A outer s H vs Q E hr h => ?_)
  · obtain ⟨a, C, v, rfl, _⟩ := h
    rfl
  · obtain ⟨a, C, v, rfl, ha, hc, hn, k⟩ := h
    refine ⟨_, pss_one (ps_ost (pv 0) (pv 1)), ?_⟩
    exact ⟨_, rfl, _, rfl, a, C, rfl, hc, hn, .inl ⟨ha, fun dx n ne => k dx n ne⟩⟩
end
theorem all_mk {P : Program} {w : World} {K : PySem.W.Frag} {h : Heap} {mg : Str → Option Value} {fa cD cR cB cS cL cW cCo cDa cKn cNu cTo cNo cUn fI fN fB fC fQ g_is_rule g_highest_least g_lowest_most g_first_conflict g_first_exceeded g_check_rows g_check_width g_strictest_least g_strictest_most g_law_pool g_law_draw g_law_kind g_law_made g_law_bounds g_law_flags g_law_caught g_law_conflict g_law_right g_law : Addr} (X : K.In h) (G : h.Ns mainGlobals mg) (hfa : mg "law" = some (.ref fa))
    {od0 an0 od1 an1 od2 an2 od3 an3 od4 an4 od5 an5 od6 an6 od7 an7 od8 an8 od9 an9 od10 an10 od11 an11 od12 an12 od13 an13 od14 an14 od15 an15 od16 an16 od17 an17 od18 an18 od19 an19 od20 an20 od21 an21 od22 an22 od23 an23 : Option Addr} {sl0 sl1 sl2 sl3 sl4 sl5 sl6 sl7 sl8 sl9 sl10 sl11 sl12 sl13 sl14 sl15 sl16 sl17 sl18 sl19 sl20 sl21 sl22 sl23 : Array (Option Value)} {oc0 kV0 dc0 pm0 cd0 ct0 oc1 kV1 dc1 pm1 cd1 ct1 oc2 kV2 dc2 pm2 cd2 ct2 oc3 kV3 dc3 pm3 cd3 ct3 oc4 kV4 dc4 pm4 cd4 ct4 oc5 kV5 dc5 pm5 cd5 ct5 oc6 kV6 dc6 pm6 cd6 ct6 oc7 kV7 dc7 pm7 cd7 ct7 oc8 kV8 dc8 pm8 cd8 ct8 oc9 kV9 dc9 pm9 cd9 ct9 oc10 kV10 dc10 pm10 cd10 ct10 oc11 kV11 dc11 pm11 cd11 ct11 oc12 kV12 dc12 pm12 cd12 ct12 oc13 kV13 dc13 pm13 cd13 ct13 oc14 kV14 dc14 pm14 cd14 ct14 oc15 kV15 dc15 pm15 cd15 ct15 oc16 kV16 dc16 pm16 cd16 ct16 oc17 kV17 dc17 pm17 cd17 ct17 oc18 kV18 dc18 pm18 cd18 ct18 oc19 kV19 dc19 pm19 cd19 ct19 oc20 kV20 dc20 pm20 cd20 ct20 oc21 kV21 dc21 pm21 cd21 ct21 oc22 kV22 dc22 pm22 cd22 ct22 oc23 kV23 dc23 pm23 cd23 ct23 : Value}
    (eD : ExT K mg "InvalidDays" cD fI)
    (eR : ExT K mg "InvalidRule" cR fI)
    (eL : ExT K mg "InvalidLength" cL fI)
    (eW : ExT K mg "NoRows" cW fI)
    (a_SpanError : PySem.W.nsIn K mainGlobals "SpanError" = some (some (.ref cS)))
    (a_Contradiction : PySem.W.nsIn K mainGlobals "Contradiction" = some (some (.ref cCo)))
    (a_InvalidDay : PySem.W.nsIn K mainGlobals "InvalidDay" = some (some (.ref cDa)))
    (a_InvalidKnown : PySem.W.nsIn K mainGlobals "InvalidKnown" = some (some (.ref cKn)))
    (a_InvalidNumber : PySem.W.nsIn K mainGlobals "InvalidNumber" = some (some (.ref cNu)))
    (a_TooMany : PySem.W.nsIn K mainGlobals "TooMany" = some (some (.ref cTo)))
    (a_NothingToUndo : PySem.W.nsIn K mainGlobals "NothingToUndo" = some (some (.ref cNo)))
    (a_Unreadable : PySem.W.nsIn K mainGlobals "Unreadable" = some (some (.ref cUn)))
    (s1 : PySem.W.subIn K (.ref cS) (.type "BaseException") = some true)
    (s2 : PySem.W.hasDictIn K cS = true)
    (s3 : PySem.W.typeIn K (.ref cS) = some (.type "type"))
    (sW : PySem.W.subIn K (.ref cW) (.ref cS) = some true)
    (sL : PySem.W.subIn K (.ref cL) (.ref cS) = some true)
    (k7W : PySem.W.kitAny K (.ref cW) [.ref cCo, .ref cDa, .ref cD, .ref cKn, .ref cNu, .ref cR, .ref cTo] = some false)
    (k2W : PySem.W.kitAny K (.ref cW) [.ref cNo, .ref cUn] = some false)
    (kVW : PySem.W.kitOne K (.ref cW) (.type "ValueError") = some true)
    (kWW : PySem.W.kitOne K (.ref cW) (.ref cW) = some true)
    (kLW : PySem.W.kitOne K (.ref cW) (.ref cL) = some false)
    (k7L : PySem.W.kitAny K (.ref cL) [.ref cCo, .ref cDa, .ref cD, .ref cKn, .ref cNu, .ref cR, .ref cTo] = some false)
    (k2L : PySem.W.kitAny K (.ref cL) [.ref cNo, .ref cUn] = some false)
    (kVL : PySem.W.kitOne K (.ref cL) (.type "ValueError") = some true)
    (kWL : PySem.W.kitOne K (.ref cL) (.ref cW) = some false)
    (kLL : PySem.W.kitOne K (.ref cL) (.ref cL) = some true)
    (aB : PySem.W.nsIn K mainGlobals "Book" = some (some (.ref cB)))
    (bm : PySem.W.makesIn K cB = true)
    (bi : PySem.W.findIn K (.ref cB) "__init__" = some (some (.ref fN)))
    (bf : PySem.W.isFn K (.ref fN) = true)
    (bk : PySem.W.keepIn K (.ref cB) = true)
    (pg : PySem.W.plainGet K cB Str.empty = true)
    (hd : PySem.W.hasDictIn K cB = true)
    (po : PySem.W.plainOver K cB = true)
    (sa : PySem.W.findIn K (.ref cB) "__setattr__" = some (some (.builtin "object.__setattr__")))
    (n1 : PySem.W.findIn K (.ref cB) "_low" = some none)
    (n2 : PySem.W.findIn K (.ref cB) "_high" = some none)
    (n3 : PySem.W.findIn K (.ref cB) "_rules" = some none)
    (n4 : PySem.W.findIn K (.ref cB) "_conflict" = some none)
    (n5 : PySem.W.findIn K (.ref cB) "_sums" = some none)
    (n6 : PySem.W.findIn K (.ref cB) "_spots" = some none)
    (m_fB : PySem.W.findIn K (.ref cB) "bounds" = some (some (.ref fB)))
    (i_fB : PySem.W.isFn K (.ref fB) = true)
    (m_fC : PySem.W.findIn K (.ref cB) "conflict" = some (some (.ref fC)))
    (i_fC : PySem.W.isFn K (.ref fC) = true)
    (m_fQ : PySem.W.findIn K (.ref cB) "__eq__" = some (some (.ref fQ)))
    (i_fQ : PySem.W.isFn K (.ref fQ) = true)
    (q1 : PySem.W.findIn K (.ref cB) "__class__" = some (some (.builtin "object.__class__")))
    (q2 : PySem.W.specialIn K (.builtin "object.__class__") "__get__" = some (some (.builtin "getset_descriptor.__get__")))
    (q3 : PySem.W.takesIn K (.builtin "object.__class__") = some true)
    (q4 : PySem.W.mroIn K cB (.type "object") = some true)
    (kBB : PySem.W.kitOne K (.ref cB) (.ref cB) = some true)
    (l0 : K.lookup fI = some ⟨oc0, od0, .func (PySem.W.fnOf "__init__" "SpanError.__init__" (defArgs s_SpanError_init) (defBody s_SpanError_init) (defScope s_SpanError_init) .none kV0 dc0 pm0 an0 cd0 ct0), sl0⟩)
    (u0 : PySem.W.codeIn K cd0 "SpanError.__init__" = true)
    (k0 : PySem.W.keepIn K (.ref fI) = true)
    (l1 : K.lookup fN = some ⟨oc1, od1, .func (PySem.W.fnOf "__init__" "Book.__init__" (defArgs s_Book_init) (defBody s_Book_init) (defScope s_Book_init) .none kV1 dc1 pm1 an1 cd1 ct1), sl1⟩)
    (u1 : PySem.W.codeIn K cd1 "Book.__init__" = true)
    (k1 : PySem.W.keepIn K (.ref fN) = true)
    (l2 : K.lookup fB = some ⟨oc2, od2, .func (PySem.W.fnOf "bounds" "Book.bounds" (defArgs s_Book_bounds) (defBody s_Book_bounds) (defScope s_Book_bounds) .none kV2 dc2 pm2 an2 cd2 ct2), sl2⟩)
    (u2 : PySem.W.codeIn K cd2 "Book.bounds" = true)
    (k2 : PySem.W.keepIn K (.ref fB) = true)
    (l3 : K.lookup fC = some ⟨oc3, od3, .func (PySem.W.fnOf "conflict" "Book.conflict" (defArgs s_Book_conflict) (defBody s_Book_conflict) (defScope s_Book_conflict) .none kV3 dc3 pm3 an3 cd3 ct3), sl3⟩)
    (u3 : PySem.W.codeIn K cd3 "Book.conflict" = true)
    (k3 : PySem.W.keepIn K (.ref fC) = true)
    (l4 : K.lookup fQ = some ⟨oc4, od4, .func (PySem.W.fnOf "__eq__" "Book.__eq__" (defArgs s_Book_eq) (defBody s_Book_eq) (defScope s_Book_eq) .none kV4 dc4 pm4 an4 cd4 ct4), sl4⟩)
    (u4 : PySem.W.codeIn K cd4 "Book.__eq__" = true)
    (k4 : PySem.W.keepIn K (.ref fQ) = true)
    (p5 : PySem.W.nsIn K mainGlobals "is_rule" = some (some (.ref g_is_rule)))
    (l5 : K.lookup g_is_rule = some ⟨oc5, od5, .func (PySem.W.fnOf "is_rule" "is_rule" (defArgs s_is_rule) (defBody s_is_rule) (defScope s_is_rule) .none kV5 dc5 pm5 an5 cd5 ct5), sl5⟩)
    (u5 : PySem.W.codeIn K cd5 "is_rule" = true)
    (k5 : PySem.W.keepIn K (.ref g_is_rule) = true)
    (p6 : PySem.W.nsIn K mainGlobals "highest_least" = some (some (.ref g_highest_least)))
    (l6 : K.lookup g_highest_least = some ⟨oc6, od6, .func (PySem.W.fnOf "highest_least" "highest_least" (defArgs s_highest_least) (defBody s_highest_least) (defScope s_highest_least) .none kV6 dc6 pm6 an6 cd6 ct6), sl6⟩)
    (u6 : PySem.W.codeIn K cd6 "highest_least" = true)
    (k6 : PySem.W.keepIn K (.ref g_highest_least) = true)
    (p7 : PySem.W.nsIn K mainGlobals "lowest_most" = some (some (.ref g_lowest_most)))
    (l7 : K.lookup g_lowest_most = some ⟨oc7, od7, .func (PySem.W.fnOf "lowest_most" "lowest_most" (defArgs s_lowest_most) (defBody s_lowest_most) (defScope s_lowest_most) .none kV7 dc7 pm7 an7 cd7 ct7), sl7⟩)
    (u7 : PySem.W.codeIn K cd7 "lowest_most" = true)
    (k7 : PySem.W.keepIn K (.ref g_lowest_most) = true)
    (p8 : PySem.W.nsIn K mainGlobals "first_conflict" = some (some (.ref g_first_conflict)))
    (l8 : K.lookup g_first_conflict = some ⟨oc8, od8, .func (PySem.W.fnOf "first_conflict" "first_conflict" (defArgs s_first_conflict) (defBody s_first_conflict) (defScope s_first_conflict) .none kV8 dc8 pm8 an8 cd8 ct8), sl8⟩)
    (u8 : PySem.W.codeIn K cd8 "first_conflict" = true)
    (k8 : PySem.W.keepIn K (.ref g_first_conflict) = true)
    (p9 : PySem.W.nsIn K mainGlobals "first_exceeded" = some (some (.ref g_first_exceeded)))
    (l9 : K.lookup g_first_exceeded = some ⟨oc9, od9, .func (PySem.W.fnOf "first_exceeded" "first_exceeded" (defArgs s_first_exceeded) (defBody s_first_exceeded) (defScope s_first_exceeded) .none kV9 dc9 pm9 an9 cd9 ct9), sl9⟩)
    (u9 : PySem.W.codeIn K cd9 "first_exceeded" = true)
    (k9 : PySem.W.keepIn K (.ref g_first_exceeded) = true)
    (p10 : PySem.W.nsIn K mainGlobals "check_rows" = some (some (.ref g_check_rows)))
    (l10 : K.lookup g_check_rows = some ⟨oc10, od10, .func (PySem.W.fnOf "check_rows" "check_rows" (defArgs s_check_rows) (defBody s_check_rows) (defScope s_check_rows) .none kV10 dc10 pm10 an10 cd10 ct10), sl10⟩)
    (u10 : PySem.W.codeIn K cd10 "check_rows" = true)
    (k10 : PySem.W.keepIn K (.ref g_check_rows) = true)
    (p11 : PySem.W.nsIn K mainGlobals "check_width" = some (some (.ref g_check_width)))
    (l11 : K.lookup g_check_width = some ⟨oc11, od11, .func (PySem.W.fnOf "check_width" "check_width" (defArgs s_check_width) (defBody s_check_width) (defScope s_check_width) .none kV11 dc11 pm11 an11 cd11 ct11), sl11⟩)
    (u11 : PySem.W.codeIn K cd11 "check_width" = true)
    (k11 : PySem.W.keepIn K (.ref g_check_width) = true)
    (p12 : PySem.W.nsIn K mainGlobals "strictest_least" = some (some (.ref g_strictest_least)))
    (l12 : K.lookup g_strictest_least = some ⟨oc12, od12, .func (PySem.W.fnOf "strictest_least" "strictest_least" (defArgs s_strictest_least) (defBody s_strictest_least) (defScope s_strictest_least) .none kV12 dc12 pm12 an12 cd12 ct12), sl12⟩)
    (u12 : PySem.W.codeIn K cd12 "strictest_least" = true)
    (k12 : PySem.W.keepIn K (.ref g_strictest_least) = true)
    (p13 : PySem.W.nsIn K mainGlobals "strictest_most" = some (some (.ref g_strictest_most)))
    (l13 : K.lookup g_strictest_most = some ⟨oc13, od13, .func (PySem.W.fnOf "strictest_most" "strictest_most" (defArgs s_strictest_most) (defBody s_strictest_most) (defScope s_strictest_most) .none kV13 dc13 pm13 an13 cd13 ct13), sl13⟩)
    (u13 : PySem.W.codeIn K cd13 "strictest_most" = true)
    (k13 : PySem.W.keepIn K (.ref g_strictest_most) = true)
    (p14 : PySem.W.nsIn K mainGlobals "_law_pool" = some (some (.ref g_law_pool)))
    (l14 : K.lookup g_law_pool = some ⟨oc14, od14, .func (PySem.W.fnOf "_law_pool" "_law_pool" (defArgs s_pool) (defBody s_pool) (defScope s_pool) .none kV14 dc14 pm14 an14 cd14 ct14), sl14⟩)
    (u14 : PySem.W.codeIn K cd14 "_law_pool" = true)
    (k14 : PySem.W.keepIn K (.ref g_law_pool) = true)
    (p15 : PySem.W.nsIn K mainGlobals "_law_draw" = some (some (.ref g_law_draw)))
    (l15 : K.lookup g_law_draw = some ⟨oc15, od15, .func (PySem.W.fnOf "_law_draw" "_law_draw" (defArgs s_draw) (defBody s_draw) (defScope s_draw) .none kV15 dc15 pm15 an15 cd15 ct15), sl15⟩)
    (u15 : PySem.W.codeIn K cd15 "_law_draw" = true)
    (k15 : PySem.W.keepIn K (.ref g_law_draw) = true)
    (p16 : PySem.W.nsIn K mainGlobals "_law_kind" = some (some (.ref g_law_kind)))
    (l16 : K.lookup g_law_kind = some ⟨oc16, od16, .func (PySem.W.fnOf "_law_kind" "_law_kind" (defArgs s_kind) (defBody s_kind) (defScope s_kind) .none kV16 dc16 pm16 an16 cd16 ct16), sl16⟩)
    (u16 : PySem.W.codeIn K cd16 "_law_kind" = true)
    (k16 : PySem.W.keepIn K (.ref g_law_kind) = true)
    (p17 : PySem.W.nsIn K mainGlobals "_law_made" = some (some (.ref g_law_made)))
    (l17 : K.lookup g_law_made = some ⟨oc17, od17, .func (PySem.W.fnOf "_law_made" "_law_made" (defArgs s_made) (defBody s_made) (defScope s_made) .none kV17 dc17 pm17 an17 cd17 ct17), sl17⟩)
    (u17 : PySem.W.codeIn K cd17 "_law_made" = true)
    (k17 : PySem.W.keepIn K (.ref g_law_made) = true)
    (p18 : PySem.W.nsIn K mainGlobals "_law_bounds" = some (some (.ref g_law_bounds)))
    (l18 : K.lookup g_law_bounds = some ⟨oc18, od18, .func (PySem.W.fnOf "_law_bounds" "_law_bounds" (defArgs s_bounds) (defBody s_bounds) (defScope s_bounds) .none kV18 dc18 pm18 an18 cd18 ct18), sl18⟩)
    (u18 : PySem.W.codeIn K cd18 "_law_bounds" = true)
    (k18 : PySem.W.keepIn K (.ref g_law_bounds) = true)
    (p19 : PySem.W.nsIn K mainGlobals "_law_flags" = some (some (.ref g_law_flags)))
    (l19 : K.lookup g_law_flags = some ⟨oc19, od19, .func (PySem.W.fnOf "_law_flags" "_law_flags" (defArgs s_flags) (defBody s_flags) (defScope s_flags) .none kV19 dc19 pm19 an19 cd19 ct19), sl19⟩)
    (u19 : PySem.W.codeIn K cd19 "_law_flags" = true)
    (k19 : PySem.W.keepIn K (.ref g_law_flags) = true)
    (p20 : PySem.W.nsIn K mainGlobals "_law_caught" = some (some (.ref g_law_caught)))
    (l20 : K.lookup g_law_caught = some ⟨oc20, od20, .func (PySem.W.fnOf "_law_caught" "_law_caught" (defArgs s_caught) (defBody s_caught) (defScope s_caught) .none kV20 dc20 pm20 an20 cd20 ct20), sl20⟩)
    (u20 : PySem.W.codeIn K cd20 "_law_caught" = true)
    (k20 : PySem.W.keepIn K (.ref g_law_caught) = true)
    (p21 : PySem.W.nsIn K mainGlobals "_law_conflict" = some (some (.ref g_law_conflict)))
    (l21 : K.lookup g_law_conflict = some ⟨oc21, od21, .func (PySem.W.fnOf "_law_conflict" "_law_conflict" (defArgs s_conflict) (defBody s_conflict) (defScope s_conflict) .none kV21 dc21 pm21 an21 cd21 ct21), sl21⟩)
    (u21 : PySem.W.codeIn K cd21 "_law_conflict" = true)
    (k21 : PySem.W.keepIn K (.ref g_law_conflict) = true)
    (p22 : PySem.W.nsIn K mainGlobals "_law_right" = some (some (.ref g_law_right)))
    (l22 : K.lookup g_law_right = some ⟨oc22, od22, .func (PySem.W.fnOf "_law_right" "_law_right" (defArgs s_right) (defBody s_right) (defScope s_right) .none kV22 dc22 pm22 an22 cd22 ct22), sl22⟩)
    (u22 : PySem.W.codeIn K cd22 "_law_right" = true)
    (k22 : PySem.W.keepIn K (.ref g_law_right) = true)
    (p23 : PySem.W.nsIn K mainGlobals "law" = some (some (.ref g_law)))
    (l23 : K.lookup g_law = some ⟨oc23, od23, .func (PySem.W.fnOf "law" "law" (defArgs s_law) (defBody s_law) (defScope s_law) .none kV23 dc23 pm23 an23 cd23 ct23), sl23⟩)
    (u23 : PySem.W.codeIn K cd23 "law" = true)
    (k23 : PySem.W.keepIn K (.ref g_law) = true)
    (z_int : PySem.W.nsIn K mainGlobals "int" = some none)
    (z_max : PySem.W.nsIn K mainGlobals "max" = some none)
    (z_min : PySem.W.nsIn K mainGlobals "min" = some none)
    (z_abs : PySem.W.nsIn K mainGlobals "abs" = some none)
    (z_len : PySem.W.nsIn K mainGlobals "len" = some none)
    (z_repr : PySem.W.nsIn K mainGlobals "repr" = some none)
    (z_isinstance : PySem.W.nsIn K mainGlobals "isinstance" = some none)
    (z_range : PySem.W.nsIn K mainGlobals "range" = some none)
    (z_str : PySem.W.nsIn K mainGlobals "str" = some none)
    (z_list : PySem.W.nsIn K mainGlobals "list" = some none)
    (z_enumerate : PySem.W.nsIn K mainGlobals "enumerate" = some none)
    (z_ValueError : PySem.W.nsIn K mainGlobals "ValueError" = some none) :
    ∃ fd : FuncData, (∀ (s : PySem.Shared) (u : Value), BindsTo s fd ⟨[u], []⟩ [("script", u)]) ∧ ∀ base : Heap, K.In base → base.Ns mainGlobals mg → FnG P w K mg base CX0 9 fa fd ["script"] (spLaw K) := by
  have e := hfa.symm.trans (PySem.W.mg_of X G p23)
  cases e
  have F0 := fun_mk (st := s_SpanError_init) l0 u0 k0
  have b0 := F0.binds (ps := ["self", "value"]) fun _ _ _ _ _ _ us hl => match us, hl with | [_, _], _ => rfl
  have F1 := fun_mk (st := s_Book_init) l1 u1 k1
  have b1 := F1.binds (ps := ["self", "low", "high", "rules"]) fun _ _ _ _ _ _ us hl => match us, hl with | [_, _, _, _], _ => rfl
  have F2 := fun_mk (st := s_Book_bounds) l2 u2 k2
  have b2 := F2.binds (ps := ["self"]) fun _ _ _ _ _ _ us hl => match us, hl with | [_], _ => rfl
  have F3 := fun_mk (st := s_Book_conflict) l3 u3 k3
  have b3 := F3.binds (ps := ["self"]) fun _ _ _ _ _ _ us hl => match us, hl with | [_], _ => rfl
  have F4 := fun_mk (st := s_Book_eq) l4 u4 k4
  have b4 := F4.binds (ps := ["self", "other"]) fun _ _ _ _ _ _ us hl => match us, hl with | [_, _], _ => rfl
  have F5 := fun_mk (st := s_is_rule) l5 u5 k5
  have b5 := F5.binds (ps := ["rule"]) fun _ _ _ _ _ _ us hl => match us, hl with | [_], _ => rfl
  have F6 := fun_mk (st := s_highest_least) l6 u6 k6
  have b6 := F6.binds (ps := ["bounds"]) fun _ _ _ _ _ _ us hl => match us, hl with | [_], _ => rfl
  have F7 := fun_mk (st := s_lowest_most) l7 u7 k7
  have b7 := F7.binds (ps := ["bounds"]) fun _ _ _ _ _ _ us hl => match us, hl with | [_], _ => rfl
  have F8 := fun_mk (st := s_first_conflict) l8 u8 k8
  have b8 := F8.binds (ps := ["bounds"]) fun _ _ _ _ _ _ us hl => match us, hl with | [_], _ => rfl
  have F9 := fun_mk (st := s_first_exceeded) l9 u9 k9
  have b9 := F9.binds (ps := ["bounds", "width", "least"]) fun _ _ _ _ _ _ us hl => match us, hl with | [_, _, _], _ => rfl
  have F10 := fun_mk (st := s_check_rows) l10 u10 k10
  have b10 := F10.binds (ps := ["book"]) fun _ _ _ _ _ _ us hl => match us, hl with | [_], _ => rfl
  have F11 := fun_mk (st := s_check_width) l11 u11 k11
  have b11 := F11.binds (ps := ["width"]) fun _ _ _ _ _ _ us hl => match us, hl with | [_], _ => rfl
  have F12 := fun_mk (st := s_strictest_least) l12 u12 k12
  have b12 := F12.binds (ps := ["book", "width"]) fun _ _ _ _ _ _ us hl => match us, hl with | [_, _], _ => rfl
  have F13 := fun_mk (st := s_strictest_most) l13 u13 k13
  have b13 := F13.binds (ps := ["book", "width"]) fun _ _ _ _ _ _ us hl => match us, hl with | [_, _], _ => rfl
  have F14 := fun_mk (st := s_pool) l14 u14 k14
  have b14 := F14.binds (ps := ["script", "spot"]) fun _ _ _ _ _ _ us hl => match us, hl with | [_, _], _ => rfl
  have F15 := fun_mk (st := s_draw) l15 u15 k15
  have b15 := F15.binds (ps := ["pool", "many"]) fun _ _ _ _ _ _ us hl => match us, hl with | [_, _], _ => rfl
  have F16 := fun_mk (st := s_kind) l16 u16 k16
  have b16 := F16.binds (ps := ["pool", "wide", "often"]) fun _ _ _ _ _ _ us hl => match us, hl with | [_, _, _], _ => rfl
  have F17 := fun_mk (st := s_made) l17 u17 k17
  have b17 := F17.binds (ps := ["kind"]) fun _ _ _ _ _ _ us hl => match us, hl with | [_], _ => rfl
  have F18 := fun_mk (st := s_bounds) l18 u18 k18
  have b18 := F18.binds (ps := ["kind"]) fun _ _ _ _ _ _ us hl => match us, hl with | [_], _ => rfl
  have F19 := fun_mk (st := s_flags) l19 u19 k19
  have b19 := F19.binds (ps := ["e"]) fun _ _ _ _ _ _ us hl => match us, hl with | [_], _ => rfl
  have F20 := fun_mk (st := s_caught) l20 u20 k20
  have b20 := F20.binds (ps := ["which", "made", "size"]) fun _ _ _ _ _ _ us hl => match us, hl with | [_, _, _], _ => rfl
  have F21 := fun_mk (st := s_conflict) l21 u21 k21
  have b21 := F21.binds (ps := ["kind"]) fun _ _ _ _ _ _ us hl => match us, hl with | [_], _ => rfl
  have F22 := fun_mk (st := s_right) l22 u22 k22
  have b22 := F22.binds (ps := ["pool"]) fun _ _ _ _ _ _ us hl => match us, hl with | [_], _ => rfl
  have F23 := fun_mk (st := s_law) l23 u23 k23
  refine ⟨PySem.W.fnOf "law" "law" (defArgs s_law) (defBody s_law) (defScope s_law) .none kV23 dc23 pm23 an23 cd23 ct23, fun s u => .of_eq rfl, fun base _ _ => ?_⟩
  have tb : TxB K mg fI cD cR cB fB fN := ⟨⟨PySem.W.mg_none_of X G z_int, PySem.W.mg_none_of X G z_max, PySem.W.mg_none_of X G z_min, PySem.W.mg_none_of X G z_abs, PySem.W.mg_none_of X G z_len, PySem.W.mg_none_of X G z_repr, PySem.W.mg_none_of X G z_isinstance, PySem.W.mg_none_of X G z_range, PySem.W.mg_none_of X G z_str, PySem.W.mg_none_of X G z_list, PySem.W.mg_none_of X G z_enumerate, PySem.W.mg_none_of X G z_ValueError⟩, eD, eR, ⟨pg, hd, po, sa⟩, n1, n2, n3, n4, n5, n6, ⟨m_fB, i_fB, k2⟩, ⟨bm, bi, bf, bk⟩, PySem.W.mg_of X G aB⟩
  have Y : TxY mg cCo cDa cD cKn cNu cR cTo cNo cUn cW cL := ⟨PySem.W.mg_of X G a_Contradiction, PySem.W.mg_of X G a_InvalidDay, eD.g, PySem.W.mg_of X G a_InvalidKnown, PySem.W.mg_of X G a_InvalidNumber, eR.g, PySem.W.mg_of X G a_TooMany, PySem.W.mg_of X G a_NothingToUndo, PySem.W.mg_of X G a_Unreadable, eW.g, eL.g⟩
  have fW : Flag K cW cCo cDa cD cKn cNu cR cTo cNo cUn cW cL true false := ⟨eW.v, eW.n, k7W, k2W, kVW, kWW, kLW⟩
  have fL : Flag K cL cCo cDa cD cKn cNu cR cTo cNo cUn cW cL false true := ⟨eL.v, eL.n, k7L, k2L, kVL, kWL, kLL⟩
  have GI : FnOk P w K mg base CX0 1 fI _ ["self", "value"] (spInit K) := ok_init F0
  have GR : CalN P w K mg base 1 "is_rule" spIsRule := ⟨g_is_rule, _, _, ok_is_rule F5, PySem.W.mg_of X G p5, k5, b5⟩
  have GL : CalN P w K mg base 1 "lowest_most" (spLow K) := ⟨g_lowest_most, _, _, ok_lowest F7 tb.b, PySem.W.mg_of X G p7, k7, b7⟩
  have GH : CalN P w K mg base 1 "highest_least" (spHigh K) := ⟨g_highest_least, _, _, ok_highest F6 tb.b, PySem.W.mg_of X G p6, k6, b6⟩
  have GE : CalN P w K mg base 1 "first_exceeded" (spExc K) := ⟨g_first_exceeded, _, _, ok_exceeded F9 tb.b, PySem.W.mg_of X G p9, k9, b9⟩
  have GC : CalN P w K mg base 2 "first_conflict" (spConf K) := ⟨g_first_conflict, _, _, ok_conflict F8 tb.b GL GE, PySem.W.mg_of X G p8, k8, b8⟩
  have GB : FnOk P w K mg base CX0 1 fB _ ["self"] (spBnd cB) := ok_bounds F2 tb
  have GN := ok_binit (P := P) (w := w) (mg := mg) (base := base) F1 tb GI b0 GR GC GB b2
  have GCf := ok_cfl (P := P) (w := w) (mg := mg) (base := base) F3 tb
  have GQ := ok_eq (P := P) (w := w) (mg := mg) (base := base) F4 tb kBB (fun a dx fs H e => .base (.ins e tb.cls q1 q2 q3 q4))
  have GRo : CalX P w K mg base 3 "check_rows" g_check_rows _ ["book"] (spRows cB cW) := ⟨ok_rows F10 tb eW GI b0 ⟨m_fC, i_fC, k3⟩ GCf b3, PySem.W.mg_of X G p10, k10, b10⟩
  have GWi : CalX P w K mg base 3 "check_width" g_check_width _ ["width"] (spWidth cL) := ⟨ok_width F11 eL GI b0, PySem.W.mg_of X G p11, k11, b11⟩
  have GSl : CalX P w K mg base 4 "strictest_least" g_strictest_least _ ["book", "width"] (spStr cB cW cL strL) := ⟨ok_sleast F12 tb GRo GWi GL GB b2, PySem.W.mg_of X G p12, k12, b12⟩
  have GSm : CalX P w K mg base 4 "strictest_most" g_strictest_most _ ["book", "width"] (spStr cB cW cL strM) := ⟨ok_smost F13 tb GRo GWi GH GB b2, PySem.W.mg_of X G p13, k13, b13⟩
  have kSl : KBn K _ ["book", "width"] 0 ["width", "book"] gSw gSw := ⟨fun s us ws _ l1 l2 => match us, ws, l1, l2 with | [], [x, y], _, _ => BindsTo.of_eq (s := s) (fd := PySem.W.fnOf "strictest_least" "strictest_least" (defArgs s_strictest_least) (defBody s_strictest_least) (defScope s_strictest_least) .none kV12 dc12 pm12 an12 cd12 ct12) rfl, gSw_rel⟩
  have kSm : KBn K _ ["book", "width"] 0 ["width", "book"] gSw gSw := ⟨fun s us ws _ l1 l2 => match us, ws, l1, l2 with | [], [x, y], _, _ => BindsTo.of_eq (s := s) (fd := PySem.W.fnOf "strictest_most" "strictest_most" (defArgs s_strictest_most) (defBody s_strictest_most) (defScope s_strictest_most) .none kV13 dc13 pm13 an13 cd13 ct13) rfl, gSw_rel⟩
  have GP : CalN P w K mg base 1 "_law_pool" (spPool K) := ⟨g_law_pool, _, _, ok_pool F14 tb.b, PySem.W.mg_of X G p14, k14, b14⟩
  have GD : CalN P w K mg base 1 "_law_draw" spDraw := ⟨g_law_draw, _, _, ok_draw F15 tb.b, PySem.W.mg_of X G p15, k15, b15⟩
  have GK : CalN P w K mg base 2 "_law_kind" spKind := ⟨g_law_kind, _, _, ok_kind F16 tb.b GD, PySem.W.mg_of X G p16, k16, b16⟩
  have GM : CalN P w K mg base 6 "_law_made" (spMade cB) := ⟨g_law_made, _, _, ok_made F17 tb GN b1, PySem.W.mg_of X G p17, k17, b17⟩
  have GLB : CalN P w K mg base 1 "_law_bounds" spLB := ⟨g_law_bounds, _, _, ok_lbounds F18 tb.b, PySem.W.mg_of X G p18, k18, b18⟩
  have GCO : CalN P w K mg base 2 "_law_conflict" spTorn := ⟨g_law_conflict, _, _, ok_torn F21 tb.b GLB, PySem.W.mg_of X G p21, k21, b21⟩
  have GFl := ok_flags (P := P) (w := w) (base := base) F19 tb.b Y
  have GCA : CalN P w K mg base 5 "_law_caught" (spCaught K cB) := ⟨g_law_caught, _, _, ok_caught F20 (PySem.W.mg_of X G a_SpanError) (PySem.W.exm_ref s1 s2 s3 sW) (PySem.W.exm_ref s1 s2 s3 sL) fW fL GFl (PySem.W.mg_of X G p19) k19 b19 GSl kSl GSm kSm, PySem.W.mg_of X G p20, k20, b20⟩
  have GZ : CalG P w K mg base 8 "_law_right" spRight := ⟨g_law_right, _, _, ok_right F22 tb GD GK GM GCO GCA GQ m_fQ i_fQ b4, PySem.W.mg_of X G p22, k22, b22⟩
  exact ok_law F23 tb.b GP GZ

end Ev

open PySem PySem.W PyProof.Rows
set_option maxRecDepth 100000 in
set_option maxHeartbeats 0 in
theorem PySem.Challenge.cw_everyspan_k20_errors_of_strictness_holds : PySem.Challenge.rw_everyspan_k20_errors_of_strictness.Holds := by
  w_on; o_law; k_head; (case hw => w_witness2)
  k_fill
  refine Ev.walk_ofG (l := PySem.Challenge.rw_everyspan_k20_errors_of_strictness) (n := 63) (k := 9) (x := "script") (sp := Ev.spLaw) rfl (by decide) rfl ⟨rfl, by decide, by decide⟩ (fun w h Y => PySem.W.kIn_of Y) ?F ?hsp
  case hsp => exact fun K H a ns hl hS => ⟨a, ns, rfl, hS, hl, fun _ => rfl⟩
  case F =>
    intro w mg fa h KX G hmg
    refine' Ev.all_mk KX G hmg ?o_eD ?o_eR ?o_eL ?o_eW ?o_a_SpanError ?o_a_Contradiction ?o_a_InvalidDay ?o_a_InvalidKnown ?o_a_InvalidNumber ?o_a_TooMany ?o_a_NothingToUndo ?o_a_Unreadable ?o_s1 ?o_s2 ?o_s3 ?o_sW ?o_sL ?o_k7W ?o_k2W ?o_kVW ?o_kWW ?o_kLW ?o_k7L ?o_k2L ?o_kVL ?o_kWL ?o_kLL ?o_aB ?o_bm ?o_bi ?o_bf ?o_bk ?o_pg ?o_hd ?o_po ?o_sa ?o_n1 ?o_n2 ?o_n3 ?o_n4 ?o_n5 ?o_n6 ?o_m_fB ?o_i_fB ?o_m_fC ?o_i_fC ?o_m_fQ ?o_i_fQ ?o_q1 ?o_q2 ?o_q3 ?o_q4 ?o_kBB ?o_l0 ?o_u0 ?o_k0 ?o_l1 ?o_u1 ?o_k1 ?o_l2 ?o_u2 ?o_k2 ?o_l3 ?o_u3 ?o_k3 ?o_l4 ?o_u4 ?o_k4 ?o_p5 ?o_l5 ?o_u5 ?o_k5 ?o_p6 ?o_l6 ?o_u6 ?o_k6 ?o_p7 ?o_l7 ?o_u7 ?o_k7 ?o_p8 ?o_l8 ?o_u8 ?o_k8 ?o_p9 ?o_l9 ?o_u9 ?o_k9 ?o_p10 ?o_l10 ?o_u10 ?o_k10 ?o_p11 ?o_l11 ?o_u11 ?o_k11 ?o_p12 ?o_l12 ?o_u12 ?o_k12 ?o_p13 ?o_l13 ?o_u13 ?o_k13 ?o_p14 ?o_l14 ?o_u14 ?o_k14 ?o_p15 ?o_l15 ?o_u15 ?o_k15 ?o_p16 ?o_l16 ?o_u16 ?o_k16 ?o_p17 ?o_l17 ?o_u17 ?o_k17 ?o_p18 ?o_l18 ?o_u18 ?o_k18 ?o_p19 ?o_l19 ?o_u19 ?o_k19 ?o_p20 ?o_l20 ?o_u20 ?o_k20 ?o_p21 ?o_l21 ?o_u21 ?o_k21 ?o_p22 ?o_l22 ?o_u22 ?o_k22 ?o_p23 ?o_l23 ?o_u23 ?o_k23 ?o_z_int ?o_z_max ?o_z_min ?o_z_abs ?o_z_len ?o_z_repr ?o_z_isinstance ?o_z_range ?o_z_str ?o_z_list ?o_z_enumerate ?o_z_ValueError
    (case o_eD => refine' Ev.cls_mk KX G ?a ?xl ?rb ?sa ?ec ?ty ?kc ?i ?t ?ga ?gg ?hd ?ac ?sn ?tk ?mr ?vn; (case a => k_is); (case xl => k_is); (case rb => decide +kernel); (case sa => k_is); (case ec => k_is); (case ty => k_is); (case kc => k_is); (case i => k_is); (case t => k_is); (case ga => k_is); (case gg => k_is); (case hd => k_is); (case ac => k_is); (case sn => k_is); (case tk => k_is); (case mr => k_is); (case vn => k_is))
    (case o_eR => refine' Ev.cls_mk KX G ?a ?xl ?rb ?sa ?ec ?ty ?kc ?i ?t ?ga ?gg ?hd ?ac ?sn ?tk ?mr ?vn; (case a => k_is); (case xl => k_is); (case rb => decide +kernel); (case sa => k_is); (case ec => k_is); (case ty => k_is); (case kc => k_is); (case i => k_is); (case t => k_is); (case ga => k_is); (case gg => k_is); (case hd => k_is); (case ac => k_is); (case sn => k_is); (case tk => k_is); (case mr => k_is); (case vn => k_is))
    (case o_eL => refine' Ev.cls_mk KX G ?a ?xl ?rb ?sa ?ec ?ty ?kc ?i ?t ?ga ?gg ?hd ?ac ?sn ?tk ?mr ?vn; (case a => k_is); (case xl => k_is); (case rb => decide +kernel); (case sa => k_is); (case ec => k_is); (case ty => k_is); (case kc => k_is); (case i => k_is); (case t => k_is); (case ga => k_is); (case gg => k_is); (case hd => k_is); (case ac => k_is); (case sn => k_is); (case tk => k_is); (case mr => k_is); (case vn => k_is))
    (case o_eW => refine' Ev.cls_mk KX G ?a ?xl ?rb ?sa ?ec ?ty ?kc ?i ?t ?ga ?gg ?hd ?ac ?sn ?tk ?mr ?vn; (case a => k_is); (case xl => k_is); (case rb => decide +kernel); (case sa => k_is); (case ec => k_is); (case ty => k_is); (case kc => k_is); (case i => k_is); (case t => k_is); (case ga => k_is); (case gg => k_is); (case hd => k_is); (case ac => k_is); (case sn => k_is); (case tk => k_is); (case mr => k_is); (case vn => k_is))
    (case o_a_SpanError => k_is)
    (case o_a_Contradiction => k_is)
    (case o_a_InvalidDay => k_is)
    (case o_a_InvalidKnown => k_is)
    (case o_a_InvalidNumber => k_is)
    (case o_a_TooMany => k_is)
    (case o_a_NothingToUndo => k_is)
    (case o_a_Unreadable => k_is)
    (case o_s1 => k_is)
    (case o_s2 => k_is)
    (case o_s3 => k_is)
    (case o_sW => k_is)
    (case o_sL => k_is)
    (case o_k7W => kit_is)
    (case o_k2W => kit_is)
    (case o_kVW => kit_is)
    (case o_kWW => kit_is)
    (case o_kLW => kit_is)
    (case o_k7L => kit_is)
    (case o_k2L => kit_is)
    (case o_kVL => kit_is)
    (case o_kWL => kit_is)
    (case o_kLL => kit_is)
    (case o_aB => k_is)
    (case o_bm => k_is)
    (case o_bi => k_is)
    (case o_bf => k_is)
    (case o_bk => k_is)
    (case o_pg => k_is)
    (case o_hd => k_is)
    (case o_po => k_is)
    (case o_sa => k_is)
    (case o_n1 => k_is)
    (case o_n2 => k_is)
    (case o_n3 => k_is)
    (case o_n4 => k_is)
    (case o_n5 => k_is)
    (case o_n6 => k_is)
    (case o_m_fB => k_is)
    (case o_i_fB => k_is)
    (case o_m_fC => k_is)
    (case o_i_fC => k_is)
    (case o_m_fQ => k_is)
    (case o_i_fQ => k_is)
    (case o_q1 => k_is)
    (case o_q2 => k_is)
    (case o_q3 => k_is)
    (case o_q4 => k_is)
    (case o_kBB => kit_is)
    (case o_l0 => k_is)
    (case o_u0 => k_is)
    (case o_k0 => k_is)
    (case o_l1 => k_is)
    (case o_u1 => k_is)
    (case o_k1 => k_is)
    (case o_l2 => k_is)
    (case o_u2 => k_is)
    (case o_k2 => k_is)
    (case o_l3 => k_is)
    (case o_u3 => k_is)
    (case o_k3 => k_is)
    (case o_l4 => k_is)
    (case o_u4 => k_is)
    (case o_k4 => k_is)
    (case o_p5 => k_is)
    (case o_l5 => k_is)
    (case o_u5 => k_is)
    (case o_k5 => k_is)
    (case o_p6 => k_is)
    (case o_l6 => k_is)
    (case o_u6 => k_is)
    (case o_k6 => k_is)
    (case o_p7 => k_is)
    (case o_l7 => k_is)
    (case o_u7 => k_is)
    (case o_k7 => k_is)
    (case o_p8 => k_is)
    (case o_l8 => k_is)
    (case o_u8 => k_is)
    (case o_k8 => k_is)
    (case o_p9 => k_is)
    (case o_l9 => k_is)
    (case o_u9 => k_is)
    (case o_k9 => k_is)
    (case o_p10 => k_is)
    (case o_l10 => k_is)
    (case o_u10 => k_is)
    (case o_k10 => k_is)
    (case o_p11 => k_is)
    (case o_l11 => k_is)
    (case o_u11 => k_is)
    (case o_k11 => k_is)
    (case o_p12 => k_is)
    (case o_l12 => k_is)
    (case o_u12 => k_is)
    (case o_k12 => k_is)
    (case o_p13 => k_is)
    (case o_l13 => k_is)
    (case o_u13 => k_is)
    (case o_k13 => k_is)
    (case o_p14 => k_is)
    (case o_l14 => k_is)
    (case o_u14 => k_is)
    (case o_k14 => k_is)
    (case o_p15 => k_is)
    (case o_l15 => k_is)
    (case o_u15 => k_is)
    (case o_k15 => k_is)
    (case o_p16 => k_is)
    (case o_l16 => k_is)
    (case o_u16 => k_is)
    (case o_k16 => k_is)
    (case o_p17 => k_is)
    (case o_l17 => k_is)
    (case o_u17 => k_is)
    (case o_k17 => k_is)
    (case o_p18 => k_is)
    (case o_l18 => k_is)
    (case o_u18 => k_is)
    (case o_k18 => k_is)
    (case o_p19 => k_is)
    (case o_l19 => k_is)
    (case o_u19 => k_is)
    (case o_k19 => k_is)
    (case o_p20 => k_is)
    (case o_l20 => k_is)
    (case o_u20 => k_is)
    (case o_k20 => k_is)
    (case o_p21 => k_is)
    (case o_l21 => k_is)
    (case o_u21 => k_is)
    (case o_k21 => k_is)
    (case o_p22 => k_is)
    (case o_l22 => k_is)
    (case o_u22 => k_is)
    (case o_k22 => k_is)
    (case o_p23 => k_is)
    (case o_l23 => k_is)
    (case o_u23 => k_is)
    (case o_k23 => k_is)
    (case o_z_int => k_is)
    (case o_z_max => k_is)
    (case o_z_min => k_is)
    (case o_z_abs => k_is)
    (case o_z_len => k_is)
    (case o_z_repr => k_is)
    (case o_z_isinstance => k_is)
    (case o_z_range => k_is)
    (case o_z_str => k_is)
    (case o_z_list => k_is)
    (case o_z_enumerate => k_is)
    (case o_z_ValueError => k_is)
