import PyProof.Rows.All
import Wide.All
import OpenK.AllK
import Wide.FinOn
import HandS.ForExc
import HandS.Codes
import HandS.IsInst
import HandS.Wide
import HandS.EndBits
import HandS.ExcInit
import HandS.ExcIs
import HandS.MakeKw
import KE.KExcIs
import HandS.MakeKwOnly
import HandS.Comp
import HandS.ExcField
import HandS.Iter
import PyProof.StrOps2
import PyProof.ReprLoop
import PyProof.StrLaws
import HandS.WordsExc
import HandS.Exc
import PySem.Challenge.RW_everyspan_k05_books_without_rows
import HandS.Property
import HandS.OwnEq
import HandS.Deep
import KE.RegKIsAll
set_option Elab.async false
set_option linter.all false
set_option maxRecDepth 100000
/-! Own rules over the hand layer: powers of great ints; defs that are promised only where no text of an object is being made around them (for repr). -/
namespace Ev
open PySem PySem.Spec PyProof.Rows L2

/-! ### powers -/
def CPowW (i j : Int) : Prop := 0 ≤ j ∧ j ≤ 1000 ∧ i.natAbs < 2 ^ 2000
section
variable {X : Cx}
theorem op_powW : OpR X (binaryOp .Pow) (rI CPowW fun i j => .int (i ^ j.toNat)) := opI fun i j _ _ _ _ _ hc q => by
  obtain ⟨h0, h1, h2⟩ := hc
  refine pow_int h0 ?_ q
  have hb : Builtin.Int.intBits i ≤ 2000 := by
    have h3 := PySem.Flt.log2_lt_of (by decide : 0 < 2000) h2
    unfold Builtin.Int.intBits
    split <;> omega
  have h4 : (Builtin.Int.intBits i : Int) * j ≤ 2000 * 1000 := by
    have a1 : (Builtin.Int.intBits i : Int) ≤ 2000 := by omega
    exact Int.le_trans (Int.mul_le_mul_of_nonneg_right a1 h0) (Int.mul_le_mul_of_nonneg_left h1 (by decide))
  have h5 : (2 : Int) ^ 27 = 134217728 := by decide
  omega

/-! ### repr -/
/-- repr of data of any depth, where nothing around is being shown -/
def rRepr (K : PySem.W.Frag) : List V → Hp → VK → Prop := fun xs H Q => ∃ (x : V) (d : PyData), xs = [x] ∧ Dp K H x d ∧ d.showable = true ∧ d.hasDict = false ∧ d.depth ≤ 100 ∧ d.shown.length ≤ sizeLine ∧ Q (.str d.shown) H
theorem call_repr_data (hg : X.A.guards = some []) (hu : X.A.units + 200 < cLine) : CallR X (.builtin "repr") (rRepr X.K) := by
  intro pins s σ H xs us Q I r h
  obtain ⟨x, d, rfl, hd, hs, hn, hp, hz, q⟩ := h
  obtain ⟨u, rfl, ru⟩ := vals1 r
  obtain ⟨as, rd⟩ := Dp.reads I d x u hd ru
  have far : ∀ a : Addr, u = .ref a → wpAny (model X.prog X.w) X.A (call (.builtin "repr") [u]) (EP X pins σ Q) X.xe s := fun a e => by
    subst e
    exact repr_of_reads' rd hs (PyData.noDict_hsm hn) hg (by omega) (fun _ _ z => z) (fun h' u tk hk => ⟨.str d.shown, H, I.kept (t' := tk) hk, ⟨u, rfl⟩, q⟩) hz
  cases hd with
  | non =>
    cases (show u = Value.none from ru)
    exact PySem.P.repr_of_none ⟨.str _, H, I.tok _, ⟨_, rfl⟩, by simpa only [PyData.shown] using q⟩
  | bl b =>
    cases (show u = Value.bool b from ru)
    exact PySem.P.repr_of_bool ⟨.str _, H, I.tok _, ⟨_, rfl⟩, by simpa only [PyData.shown] using q⟩
  | int i =>
    obtain ⟨t, e⟩ := (show ∃ t, u = Value.int i t from ru)
    subst e
    exact PySem.P.repr_of_int (by simpa [PyData.showable] using hs) ⟨.str _, H, I.tok _, ⟨_, rfl⟩, by simpa only [PyData.shown] using q⟩
  | str y =>
    obtain ⟨t, e⟩ := (show ∃ t, u = Value.str y t from ru)
    subst e
    exact PySem.P.repr_of_str ⟨.str _, H, I.tok _, ⟨_, rfl⟩, by simpa only [PyData.shown] using q⟩ (by simpa only [PyData.shown] using hz)
  | @lst a xs ds e1 e2 => exact far a (show u = Value.ref a from ru)
  | @tup a xs ds e1 e2 => exact far a (show u = Value.ref a from ru)
end

/-! ### defs that show things -/
structure FnG (P : Program) (w : World) (K : PySem.W.Frag) (mg : Str → Option Value) (base : Heap) (CX : CXT) (k : Nat) (f : Addr) (fd : FuncData) (ps : List Str) (sp : Sp) : Prop where
  size : ∀ vs H Q E, sp vs H Q E → vs.length = ps.length
  does : ∀ (A : Around) (fr : List Env) (s : Shared) (H : Hp) (as : Args) (us : List Value) (vs : List V) (Q : VK) (E : XK),
    Room k A ∧ A.guards = some [] → Env0 P w K mg base A fr s H → BindsTo s fd as (ps.zip us) → Vals vs us → sp vs H Q E → codeAny (model P w) A (.call (.ref f) as) (CR CX fr P w H s Q E) s
theorem FnG.of {P : Program} {w : World} {K : PySem.W.Frag} {mg : Str → Option Value} {base : Heap} {CX : CXT} {k : Nat} {f : Addr} {fd : FuncData} {ps : List Str} {sp : Sp}
    (F : FnOk P w K mg base CX k f fd ps sp) : FnG P w K mg base CX k f fd ps sp :=
  ⟨F.len, fun A fr s H as us vs Q E hr e0 hb hv hs => F.run A fr s H as us vs Q E hr.1 e0 hb hv hs⟩
section
variable {X : Cx} {CX : CXT} {k : Nat} {f : Addr} {fd : FuncData} {ps : List Str} {sp : Sp} {E : XK} {x : Str} {p pos : Pos} {e : Expr} {es : List Expr} {t : TA}
/-- f(e, ..), all parameters given -/
theorem pe_callG (F : FnG X.prog X.w X.K X.mg X.base CX k f fd ps sp) (hr : Room k X.A) (hgu : X.A.guards = some []) (hg : Gl X x) (hm : X.mg x = some (.ref f)) (hk : PySem.W.keepIn X.K (.ref f) = true)
    (hb : Binds X.K fd ps []) (hx : Passes CX X E) (ha : PA X (e :: es) t) (hdb : (x == ("__debug__" : Str)) = false := by decide)
    (he : starEach (e :: es) X.env = (false, eval e X.env) :: starEach es X.env := by rfl) (hpl : (backTo pos (starEach es X.env)).any (·.1) = false := by rfl) :
    PE X (.Call (.Name x p) (e :: es) [] pos) (tCall sp [] E t) := ⟨fun pins s σ H Q I h => by
  refine wpAny_Call_Name_kw (ld_glob I hg hm ?_ hdb)
  refine PySem.W.callWith_K (h₀ := X.base) I.ok.mod.kin hk (thn (ha.run pos pins s σ H _ I h) fun us s1 got => ?_) he hpl
  obtain ⟨vs, H1, I1, r, q⟩ := got
  refine ⟨I1.kIn, ?_⟩
  rw [List.append_nil] at q
  have hl : (us ++ []).length = ps.length := by
    rw [List.append_nil, ← r.length]
    exact F.size _ _ _ _ q
  have hb1 := hb s1 us I1.kIn hl
  rw [List.append_nil] at hb1
  refine wpAny_call (codeAny_mono (F.does X.A X.stack s1 H1 ⟨us, []⟩ us vs Q E ⟨hr, hgu⟩ I1.env0 hb1 r q) fun res s' hq => ?_)
  rcases res with er | fl
  · exact hx pins σ H1 s1 er s' I1 hq
  · rcases fl with _ | _ | _ | u
    · exact False.elim hq
    · exact False.elim hq
    · exact False.elim hq
    · exact I1.after hq⟩
end
/-- a def by its body, which may lean on it that nothing is being shown around -/
theorem fnG_of {P : Program} {w : World} {K : PySem.W.Frag} {mg : Str → Option Value} {base : Heap} {x qual : Str} {st : Stmt} {f : Addr} {fd : FuncData} {N ps : List Str} {k : Nat} {sp : Sp} (F : Fun K x qual st f fd) (S : FnScope N ps (defScope st))
    (len : ∀ vs H Q E, sp vs H Q E → vs.length = ps.length)
    (body : ∀ (cdv : Value) (A : Around) (fr : List Env) (s : Shared) (H : Hp) (vs : List V) (Q : VK) (E : XK), A.guards = some [] → Room k (A.deeper (envOfC qual (defScope st) s.heap.objs.size f cdv)) → sp vs H Q E →
      ∃ t, PSs (cxOf CX0 P w K mg base N qual (defScope st) f cdv A fr s H E).nox (defBody st) t ∧ t { nx := fun _ H' => Q .non H', rt := Q } (start N vs) H) :
    FnG P w K mg base CX0 (k + 1) f fd ps sp := by
  obtain ⟨oc, od, kV, doc, pm, an, cdv, ct, osl, rfl, lk, hcd⟩ := F.ex
  refine ⟨len, fun A fr s H as us vs Q E hr e0 hb rv hsp => ?_⟩
  obtain ⟨hroom, hgu⟩ := hr
  have up : ∀ b o, base.get? b = some o → s.heap.get? b = some o := fun b o z => (e0.bs b o z).1
  have KX : K.In s.heap := e0.mod.kin.keeps up
  have par : ∀ y ∈ ps.zip us, (defScope st).names.lookup y.1 = some .local ∨ ((defScope st).names.lookup y.1 = some .cell ∧ ((cellsFrom (s.heap.objs.size + 1) (defScope st).names []).lookup y.1).isSome = true) := by
    rintro ⟨n, v⟩ hy
    rcases S.par n (List.of_mem_zip hy).1 with q | q
    · exact Or.inl q
    · exact Or.inr ⟨q, PySem.W.cellsFrom_some _ _ _ (Or.inl q)⟩
  refine codeAny_call_function hroom.depth (KX _ _ lk) rfl S.co S.gen rfl (PySem.W.codeRec_of KX hcd) (hb _ _ _ _ ?_)
  refine wpAny_newFunctionEnv_cells S.kind par fun env he s1 ic => ?_
  subst he
  refine ⟨(e0.mod.nolimit.keeps up).keeps ic.toInCall.keep, codeAny_func ?_⟩
  obtain ⟨t, ht, hq⟩ := body cdv A fr s H vs Q E hgu (hroom.deeper _) hsp
  have I : Inv (cxOf CX0 P w K mg base N qual (defScope st) f cdv A fr s H E) [] (start N vs) H s1 := inv_start S hroom.hd e0 (len _ _ _ _ hsp) rv ic
  refine wpAny_mono (ht.nox.run [] s1 (start N vs) H _ I hq) (fun fl s' hs => ?_) fun er s' hs => hs
  rcases fl with _ | _ | _ | u
  · obtain ⟨σ', H', J, q⟩ := hs
    exact ⟨V.non, H', J.os, J.bare, J.base, J.hok, rfl, q⟩
  · exact hs.elim fun _ z => z.elim fun _ z => False.elim z.2
  · exact hs.elim fun _ z => z.elim fun _ z => False.elim z.2
  · obtain ⟨v, σ', H', J, r2, q⟩ := hs
    exact ⟨v, H', J.os, J.bare, J.base, J.hok, r2, q⟩
end Ev

namespace Ev
open PySem PySem.Spec PyProof.Rows L2
/-- such a def as a constant of the module -/
structure CalG (P : Program) (w : World) (K : PySem.W.Frag) (mg : Str → Option Value) (base : Heap) (k : Nat) (x : Str) (sp : Sp) : Prop where
  ex : ∃ (f : Addr) (fd : FuncData) (ps : List Str), FnG P w K mg base CX0 k f fd ps sp ∧ mg x = some (.ref f) ∧ PySem.W.keepIn K (.ref f) = true ∧ Binds K fd ps []
theorem pe_cG {X : Cx} {k j : Nat} {x : Str} {sp : Sp} {p pos : Pos} {e : Expr} {es : List Expr} {t : TA} (c : CalG X.prog X.w X.K X.mg X.base k x sp) (hr : Room j X.A) (hk : k ≤ j) (hgu : X.A.guards = some []) (hg : Gl X x) (ha : PA X (e :: es) t)
    (hdb : (x == ("__debug__" : Str)) = false := by decide) (he : starEach (e :: es) X.env = (false, eval e X.env) :: starEach es X.env := by rfl) (hpl : (backTo pos (starEach es X.env)).any (·.1) = false := by rfl) :
    PE X (.Call (.Name x p) (e :: es) [] pos) (tCall sp [] E0 t) := by
  obtain ⟨f, fd, ps, F, hm, kp, b⟩ := c.ex
  exact pe_callG F (hr.mono hk) hgu hg hm kp b pass0 ha hdb he hpl
/-- a def that shows nothing, likewise -/
structure CalN (P : Program) (w : World) (K : PySem.W.Frag) (mg : Str → Option Value) (base : Heap) (k : Nat) (x : Str) (sp : Sp) : Prop where
  ex : ∃ (f : Addr) (fd : FuncData) (ps : List Str), FnOk P w K mg base CX0 k f fd ps sp ∧ mg x = some (.ref f) ∧ PySem.W.keepIn K (.ref f) = true ∧ Binds K fd ps []
theorem pe_cN {X : Cx} {k j : Nat} {x : Str} {sp : Sp} {p pos : Pos} {e : Expr} {es : List Expr} {t : TA} (c : CalN X.prog X.w X.K X.mg X.base k x sp) (hr : Room j X.A) (hk : k ≤ j) (hg : Gl X x) (ha : PA X (e :: es) t)
    (hdb : (x == ("__debug__" : Str)) = false := by decide) (he : starEach (e :: es) X.env = (false, eval e X.env) :: starEach es X.env := by rfl) (hpl : (backTo pos (starEach es X.env)).any (·.1) = false := by rfl) :
    PE X (.Call (.Name x p) (e :: es) [] pos) (tCall sp [] E0 t) := by
  obtain ⟨f, fd, ps, F, hm, kp, b⟩ := c.ex
  exact pe_call F (hr.mono hk) hg hm kp b .nil pass0 ha hdb he hpl
theorem hun {k : Nat} {A : Around} (r : Room k A) : A.units + 200 < cLine := by
  have := r.un
  omega
theorem hun64 {k : Nat} {A : Around} (r : Room k A) : A.units + 64 < cLine := by
  have := r.un
  omega
end Ev

/-! ### the end of a law row, the law's def promised only where nothing is being shown around -/
namespace Ev
open PySem PySem.Spec PyProof.Rows L2
/-- what a call from outside leaves -/
abbrev Left (s₁ : Shared) : Result → Shared → Prop := fun r s' => r = .ok (.ret (.bool true)) ∧ OldK s₁.heap s'.heap ∧ s'.os = s₁.os ∧ AllBare s'.gens
section
variable {P : Program} {w : World} {K : PySem.W.Frag} {mg mb : Str → Option Value} {k : Nat} {fa a : Addr} {fd : FuncData} {x : Str} {sp : Sp} {s₁ : Shared} {vs : List Value} {ns : List Int}
/-- over an abstract heap H that tracks the script alone, or nothing -/
theorem from_heap {H : Hp} (KX : K.In s₁.heap) (hns : s₁.heap.Ns mainGlobals mg) (hb : s₁.heap.Ns builtinsNs mb) (hbb : ∀ x : Str, x ≠ "__name__" → mb x = bootBuiltins x) (hlim : s₁.heap.NoLimit) (hg : s₁.gens = #[])
    (ha : s₁.heap.get? a = some { cls := .type "list", data := .seq vs.toArray }) (hr : Room k callerA)
    (F : ∀ base : Heap, K.In base → base.Ns mainGlobals mg → FnG P w K mg base CX0 k fa fd [x] sp) (hbind : ∀ (s : Shared) (u : Value), BindsTo s fd ⟨[u], []⟩ [(x, u)])
    (hO : Only H) (hok : HOk P w H s₁.heap) (only : ∀ b u, H b = some u → b = a) (hK : ∀ u, H a = some u → K.lookup a = none)
    (hsp : sp [.ref a] H (fun v _ => v = .bl true) fun _ _ _ => False) : codeAny (model P w) callerA (.call (.ref fa) ⟨[.ref a], []⟩) (Left s₁) s₁ := by
  have none_of : ∀ {b : Addr}, b ≠ a → H b = none := fun {b} nb => by
    cases q : H b with
    | none => rfl
    | some u => exact absurd (only b u q) nb
  -- a namespace is no list: it stays in the heap without what is tracked
  have keepNs : ∀ {b : Addr} {m : Str → Option Value}, s₁.heap.Ns b m → (hidT s₁.heap H).Ns b m := fun {b m} hm => by
    obtain ⟨o, es, ep, e1, e2, r⟩ := hm
    refine ⟨o, es, ep, hidT_get e1 (none_of fun z => ?_), e2, r⟩
    rw [z, ha] at e1
    have z1 := Option.some.inj e1
    rw [← z1] at e2
    exact absurd e2 (fun q => by cases q)
  have KB : K.In (hidT s₁.heap H) := fun b o e => by
    refine hidT_get (KX b o e) ?_
    cases q : H b with
    | none => rfl
    | some u =>
      have eb := only b u q
      rw [eb] at q e
      rw [hK u q] at e
      cases e
  have lim : (hidT s₁.heap H).NoLimit := by
    obtain ⟨mc, h1, h2⟩ := hlim
    exact ⟨mc, keepNs h1, h2⟩
  have env : Env0 P w K mg (hidT s₁.heap H) callerA [] s₁ H := {
    frames := rfl
    mod := ⟨KB, keepNs hns, ⟨mb, keepNs hb, hbb⟩, lim⟩
    bs := fun b o e => of_hidT e
    bsz := Nat.le_of_eq (hidT_size _ _)
    funs := trivial
    frf := fun b z => by
      have z' : b ∈ ([] : List Addr) := z
      cases z'
    hok := hok
    bare := .of_eq hg }
  refine codeAny_mono ((F _ KB (keepNs hns)).does callerA [] s₁ H ⟨[.ref a], []⟩ [.ref a] [.ref a] _ _ ⟨hr, rfl⟩ env (hbind s₁ (.ref a)) (Paired.cons rfl Paired.nil) hsp) fun r s' h => ?_
  rcases r with er | fl
  · exact False.elim h
  · rcases fl with _ | _ | _ | u
    · exact False.elim h
    · exact False.elim h
    · exact False.elim h
    · obtain ⟨v, H', os, bare, un, hok', r', q⟩ := h
      have q' : v = .bl true := q
      subst q'
      obtain rfl : u = Value.bool true := r'
      refine ⟨rfl, OldK.of_keep fun b o e => ?_, os, bare⟩
      rcases hO b with z | ⟨ob, xs, z⟩
      · refine un.keep b o e z (fun m => ?_) (fun m => ?_)
        · have m' : b ∈ ([] : List Addr) := m
          cases m'
        · cases m
      · have e1 : s₁.heap.get? b = some ob := (hok b _ z).1
        have e2 : s'.heap.get? b = some ob := (hok' b _ (un.frzs b ob _ z)).1
        rw [e] at e1
        rw [e2, ← Option.some.inj e1]
theorem law_callG (KX : K.In s₁.heap) (hns : s₁.heap.Ns mainGlobals mg) (hb : s₁.heap.Ns builtinsNs mb) (hbb : ∀ x : Str, x ≠ "__name__" → mb x = bootBuiltins x) (hlim : s₁.heap.NoLimit) (hg : s₁.gens = #[])
    (ha : s₁.heap.get? a = some { cls := .type "list", data := .seq vs.toArray }) (hi : IntsAre vs ns) (hl : ns.length ≤ sizeLine) (hr : Room k callerA)
    (F : ∀ base : Heap, K.In base → base.Ns mainGlobals mg → FnG P w K mg base CX0 k fa fd [x] sp) (hbind : ∀ (s : Shared) (u : Value), BindsTo s fd ⟨[u], []⟩ [(x, u)])
    (hsp : ∀ H : Hp, Only H → SqL K H a (ns.map V.int) → sp [.ref a] H (fun v _ => v = .bl true) fun _ _ _ => False) : codeAny (model P w) callerA (.call (.ref fa) ⟨[.ref a], []⟩) (Left s₁) s₁ := by
  have rv : Vals (ns.map V.int) vs := vals_ints hi
  cases hk : K.lookup a with
  | some o =>
    -- one of the module's own objects: nothing is tracked
    have e := KX a o hk
    rw [ha] at e
    cases e
    have n0 : ∀ b u, (fun _ => none : Hp) b = some u → False := fun b u z => by cases z
    refine from_heap (H := fun _ => none) KX hns hb hbb hlim hg ha hr F hbind (fun _ => .inl rfl) (fun b u z => (n0 b u z).elim) (fun b u z => (n0 b u z).elim) (fun u z => (n0 a u z).elim) (hsp _ (fun _ => .inl rfl) (.inr ⟨_, vs.toArray, _, hk, rfl, rfl, rfl, ?_, rv⟩))
    rw [List.size_toArray, hi.length]
    exact hl
  | none =>
    have at1 : ∀ b u, (upd (fun _ => none) a (.frz { cls := .type "list", data := .seq vs.toArray } (.lst (ns.map V.int)))) b = some u → b = a ∧ u = .frz { cls := .type "list", data := .seq vs.toArray } (.lst (ns.map V.int)) := fun b u z => by
      by_cases hb : b = a
      · subst hb
        rw [upd_same] at z
        exact ⟨rfl, (Option.some.inj z).symm⟩
      · rw [upd_ne hb] at z
        cases z
    have o1 : Only (upd (fun _ => none) a (.frz { cls := .type "list", data := .seq vs.toArray } (.lst (ns.map V.int)))) := fun b => by
      by_cases hb : b = a
      · subst hb
        exact .inr ⟨_, _, upd_same⟩
      · exact .inl (by rw [upd_ne hb])
    refine from_heap (H := upd (fun _ => none) a (.frz { cls := .type "list", data := .seq vs.toArray } (.lst (ns.map V.int)))) KX hns hb hbb hlim hg ha hr F hbind o1 (fun b u z => ?_) (fun b u z => (at1 b u z).1) (fun _ _ => hk) (hsp _ o1 (.inl (.inr ⟨_, upd_same⟩)))
    obtain ⟨eb, eu⟩ := at1 b u z
    subst eb
    subst eu
    exact ⟨ha, by rw [List.length_map]; exact hl, vs, _, rv, ha⟩
end
/-- the goal that the head leaves, from the law's promise -/
theorem walk_ofG {l : PySem.W.OpenLaw} {n k : Nat} {q : Program} {loose : List Str} {XP : (Str → Option Value) → Heap → Prop} {YP : World → Heap → Prop} {d : DefRec} {K : Params → PySem.W.Frag} {sp : PySem.W.Frag → Sp} {x : Str}
    (hn : l.most = some n) (hn2 : n ≤ sizeLine) (hdf : d.params.defaults = []) (hr : Room k callerA) (hY : ∀ (w : World) (h : Heap), YP w h → (K w.params).In h)
    (F : ∀ (w : World) (mg : Str → Option Value) (fa : Addr) (h : Heap), (K w.params).In h → h.Ns mainGlobals mg → mg d.name = some (.ref fa) →
      ∃ fd : FuncData, (∀ (s : Shared) (u : Value), BindsTo s fd ⟨[u], []⟩ [(x, u)]) ∧ ∀ base : Heap, (K w.params).In base → base.Ns mainGlobals mg → FnG l.prog w (K w.params) mg base CX0 k fa fd [x] (sp (K w.params)))
    (hsp : ∀ (K : PySem.W.Frag) (H : Hp) (a : Addr) (ns : List Int), ns.length ≤ n → SqL K H a (ns.map V.int) → sp K [.ref a] H (fun v _ => v = .bl true) fun _ _ _ => False) :
    PySem.W.WalkO q loose XP YP l.row.toRowW d [] (fun f vs => PySem.call f vs) := by
  refine Att.attach_call hn hdf fun w s₀ s₁ mg mb fa o pm cd doc a vs ns G Y ho hd hcd hmg hobj hints hlen hg => ?_
  have KX := hY w _ Y
  obtain ⟨fd, hb, hF⟩ := F w mg fa _ KX G.T.g hmg
  exact law_callG KX G.T.g G.T.b G.T.builtins G.T.nolimit hg hobj hints (Nat.le_trans hlen hn2) hr hF hb fun H _ hS => hsp (K w.params) H a ns hlen hS
end Ev

set_option maxHeartbeats 2000000
/-! An own exception with an own __init__ as a value: made by position or by one keyword, its field read, asked by isinstance. -/
namespace Ev
open PySem PySem.Spec PyProof.Rows L2 PySem.HandSPX
section
variable {M : Model} {prog : Program} {w : World} {A : Around} {E : Value → Shared → Prop} {R : Result → Shared → Prop} {h : Heap} {g : Array GenState} {d : Drawn} {t : Nat} {os : OsState}
variable {nm q : Str} {C N : Addr} {bs bm bmB : List Value} {hdct : Bool} {sn : List Str} {sub : List Value} {ab : Bool} {col : Option Bool} {dd : Option Addr} {k0 k1 k2 k3 k5 : Option Value} {B newId initId : String} {kw : List (Str × Value)}
/-- BaseException.__new__ takes any keywords -/
theorem kw_check_new (F : ExcBaseFacts B newId initId bmB) (hT : ∀ X : String, bm.contains (.type X) = bmB.contains (.type X)) {Q : Unit → Shared → Prop}
    (hC : h.get? C = some (excClassObj nm q C N bs bm hdct sn sub ab col dd k0 k1 k2 k3 k5 newId)) (hq : Q () ⟨h, g, d, t, os⟩) (hk : kw.length = 1) : wpAny M A (checkBuiltinCall newId ⟨[.ref C], kw⟩) Q E ⟨h, g, d, t, os⟩ := by
  obtain ⟨kv, rfl⟩ : ∃ kv, kw = [kv] := by
    match kw, hk with
    | [kv], _ => exact ⟨kv, rfl⟩
  have inB : (Value.ref C :: bm).contains (.type B) = true := by rw [List.contains_cons, hT, F.hasB, Bool.or_true]
  have noStar := F.noStar
  simp only [checkBuiltinCall, F.newKind, F.newSplit, F.newRow]
  repeat (first | refine wpAny_loadPart_at hC ?_ | (refine wpAny_isSubtype_exc hC ?_; rw [inB]) | refine wpAny_staticBase_exc hC ?_ | refine wpAny_madeBy_exc hC ?_ | simp only [bne_self_eq_false, Bool.false_eq_true, if_false] | wp_step)
  exact hq
theorem kw_new (F : ExcBaseFacts B newId initId bmB) (hT : ∀ X : String, bm.contains (.type X) = bmB.contains (.type X))
    (hC : h.get? C = some (excClassObj nm q C N bs bm hdct sn sub ab col dd k0 k1 k2 k3 k5 newId))
    (hq : R (.ok (.ret (.ref (h.objs.size + 1)))) ⟨(h.push (W.kdv_tup [])).push (excO C h.objs.size), g, d, t, os⟩) : codeAny (model prog w) A (.builtin newId ⟨[.ref C], kw⟩) R ⟨h, g, d, t, os⟩ := by
  have hends := F.ends
  have inB : (Value.ref C :: bm).contains (.type B) = true := by rw [List.contains_cons, hT, F.hasB, Bool.or_true]
  have inA : (Value.ref C :: bm).contains (.type "AttributeError") = false := by rw [List.contains_cons, hT, F.noAttr]; rfl
  have inN : (Value.ref C :: bm).contains (.type "NameError") = false := by rw [List.contains_cons, hT, F.noName]; rfl
  refine codeAny_builtinAt F.entry ?_
  unfold Builtin.«BaseException.__new__»
  refine PySem.wpAt_bind ?_
  show PySem.wpAt _ _ _ (stack >>= _) _ _ _
  refine PySem.wpAt_bind (PySem.wpAt_stack fun p below => PySem.wpAt_of_wpAny ?_)
  wp_walk
  refine PySem.wpAt_of_wpAny ?_
  rw [F.owner]
  repeat (first | with_reducible refine wpAny_madeHere_exc F.canon hC ?_ | with_reducible refine wpAny_loadPart_at hC ?_ | (with_reducible refine wpAny_isSubtype_exc hC ?_; first | rw [inB] | rw [inA] | rw [inN]) | wp_step)
  show R _ _
  rw [Heap.size_push]
  exact hq
theorem kw_check_call (hC : h.get? C = some (excClassObj nm q C N bs bm hdct sn sub ab col dd k0 k1 k2 k3 k5 newId)) (hk : kw.length = 1) {Q : Unit → Shared → Prop} (hq : Q () ⟨h, g, d, t, os⟩) :
    wpAny M A (checkBuiltinCall "type.__call__" ⟨[.ref C], kw⟩) Q E ⟨h, g, d, t, os⟩ := by
  obtain ⟨kv, rfl⟩ : ∃ kv, kw = [kv] := by
    match kw, hk with
    | [kv], _ => exact ⟨kv, rfl⟩
  have f3 := tc_sub
  have isT : (⟨h, g, d, t, os⟩ : Shared).TypeIs (.ref C) "type" := ⟨_, hC, rfl⟩
  simp only [checkBuiltinCall, tc_kind, tc_split]
  repeat (any_goals (first | assumption | with_reducible refine wpAny_loadPart_at hC ?_ | with_reducible refine wpAny_onRaise ?_ | with_reducible refine wpAny_map ?_ | wp_step))
theorem kw_type_call (F : ExcBaseFacts B newId initId bmB) (hT : ∀ X : String, bm.contains (.type X) = bmB.contains (.type X)) {fI : Addr} {Q : PySem.Fin → Shared → Prop} (hk : kw.length = 1)
    (hC : h.get? C = some (excClassObj nm q C N bs bm hdct sn sub ab col dd k0 k1 k2 k3 k5 newId))
    (hi : W.Looks (model prog w) h (typeLookup (.ref C) "__init__") (some (.ref fI))) (hb : ∀ self, W.Looks (model prog w) h (bindSpecial (.ref fI) self) (.ref fI, [self]))
    (hq : codeAny (model prog w) A (.call (.ref fI) ⟨[.ref (h.objs.size + 1)], kw⟩)
      (fun r s' => match r with | .ok (.ret v) => v = .none ∧ Q (.done (.ret (.ref (h.objs.size + 1)))) s' | .ok _ => False | .error e => E e s')
      ⟨(h.push (W.kdv_tup [])).push (excO C h.objs.size), g, d, t, os⟩) :
    wpAny (model prog w) A (Builtin.«type.__call__» ⟨[.ref C], kw⟩) Q E ⟨h, g, d, t, os⟩ := by
  repeat (first | with_reducible refine wpAny_loadPart_at hC ?_ | with_reducible refine wpAny_madeBy_exc hC ?_ | wp_step)
  refine codeAny_call_builtin_code (Code.quiet_builtin _ F.quiet) (kw_check_new F hT hC ?_ hk)
  refine kw_new F hT hC ?_
  show wpAny _ _ _ _ _ _
  have up : ∀ b o, h.get? b = some o → ((h.push (W.kdv_tup [])).push (excO C h.objs.size)).get? b = some o := fun b o e => Heap.get?_push_of_some _ (Heap.get?_push_of_some _ e)
  have hC2 := up _ _ hC
  have hnew : ((h.push (W.kdv_tup [])).push (excO C h.objs.size)).get? (h.objs.size + 1) = some (excO C h.objs.size) := by heap_get
  have inC : (Value.ref C :: bm).contains (.ref C) = true := by simp
  have i1 := hi.keeps up
  have b1 := (hb (.ref (h.objs.size + 1))).keeps up
  unfold isInstance
  repeat (first | with_reducible refine wpAny_loadPart_at hnew ?_ | (with_reducible refine wpAny_isSubtype_exc hC2 ?_; rw [inC]) | wp_step)
  show wpAny _ _ (typeLookup (.ref C) _) _ _ _
  refine i1.at ?_
  refine wpAny_holding (wpAny_bind (b1.at ?_))
  refine wpAny_bind (wpAny_call (codeAny_mono hq fun r s' z => ?_))
  rcases r with e | (_ | _ | _ | v)
  · exact z
  · exact z.elim
  · exact z.elim
  · exact z.elim
  · obtain ⟨rfl, z⟩ := z
    first
      | exact wpAny_pure (wpAny_pure z)
      | (wp_walk; exact z)
/-- C(n = v), C an own exception class with an own __init__ -/
theorem kw_call (F : ExcBaseFacts B newId initId bmB) (hT : ∀ X : String, bm.contains (.type X) = bmB.contains (.type X)) {fI : Addr} (hk : kw.length = 1)
    (hC : h.get? C = some (excClassObj nm q C N bs bm hdct sn sub ab col dd k0 k1 k2 k3 k5 newId))
    (hi : W.Looks (model prog w) h (typeLookup (.ref C) "__init__") (some (.ref fI))) (hb : ∀ self, W.Looks (model prog w) h (bindSpecial (.ref fI) self) (.ref fI, [self]))
    (hq : codeAny (model prog w) (A.under (.builtin "type.__call__" ⟨[.ref C], kw⟩)) (.call (.ref fI) ⟨[.ref (h.objs.size + 1)], kw⟩) (W.InitBack (h.objs.size + 1) R)
      ⟨(h.push (W.kdv_tup [])).push (excO C h.objs.size), g, d, t, os⟩) : codeAny (model prog w) A (.call (.ref C) ⟨[], kw⟩) R ⟨h, g, d, t, os⟩ := by
  have f1 := tc_lookup
  have f2 := tc_bind (.ref C)
  have isT : (⟨h, g, d, t, os⟩ : Shared).TypeIs (.ref C) "type" := ⟨_, hC, rfl⟩
  refine codeAny_of_tree ?_
  show wpAny _ _ (callAny (.ref C) _) _ _ _
  repeat (any_goals (first | assumption | with_reducible refine wpAny_loadPart_at hC ?_ | wp_step))
  refine ⟨rfl, ?_⟩
  refine codeAny_call_builtin_at (Code.quiet_builtin _ (by decide +kernel)) entry_typeCall (kw_check_call hC hk (kw_type_call F hT hk hC hi hb ?_))
  refine codeAny_mono hq fun r s' z => ?_
  rcases r with e | (_ | _ | _ | v) <;> exact z
end
end Ev

set_option maxHeartbeats 2000000
/-! The rules for such a value. -/
namespace Ev
open PySem PySem.Spec PyProof.Rows L2 PySem.HandSPX
/-- C(e), C(n = e): C an own exception class, its __init__ keeping sp -/
def tMkV (C : Addr) (sp : Sp) (ta : TA) : TE := fun σ H Q => ta σ H fun vs H1 => ∃ y, vs = [y] ∧ ∀ a, H1 a = none → sp [.ref a, y] (upd H1 a (exo a C none)) (fun v H2 => v = .non ∧ Q (.ref a) H2) (fun _ _ _ => False)
section
variable {X : Cx} {CX : CXT} {k : Nat} {C fI : Addr} {fd : FuncData} {ps : List Str} {sp : Sp} {x : Str} {p pos : Pos} {e : Expr} {es : List Expr} {ta : TA} {kws : List Keyword} {n : Str}
/-- what follows the call of __init__ -/
theorem mkv_end {pins : List (Addr × Obj)} {σ : L2.St} {H : Hp} {s : Shared} {a : Addr} {Q : VK} {r : Result} {s' : Shared} {E : XK} (I : Inv X pins σ H s) (hx : Passes CX X (fun _ _ _ => False))
    (hq : CR CX X.stack X.prog X.w H s (fun v H2 => v = .non ∧ Q (.ref a) H2) (fun _ _ _ => False) r s') :
    PySem.W.InitBack a (fun r s2 => match r with | .ok (.ret u) => EP X pins σ Q u s2 | .ok _ => False | .error er => X.xe er s2) r s' := by
  rcases r with er | (_ | _ | _ | u)
  · exact hx pins σ H s er s' I hq
  · exact False.elim hq
  · exact False.elim hq
  · exact False.elim hq
  · obtain ⟨v, H2, I2, rv, ev, q⟩ := I.after hq
    subst ev
    exact ⟨rv, .ref a, H2, I2, rfl, q⟩
theorem pe_oexV (T : OexC X.K C) (iC : PySem.W.findIn X.K (.ref C) "__init__" = some (some (.ref fI))) (tI : PySem.W.typeIn X.K (.ref fI) = some (.type "function"))
    (F1 : FnOk X.prog X.w X.K X.mg X.base CX k fI fd ps sp) (hr : Room (k + 1) X.A) (hb : Binds X.K fd ps []) (hx : Passes CX X (fun _ _ _ => False)) (hg : Gl X x) (hm : X.mg x = some (.ref C)) (ha : PA X (e :: es) ta)
    (hdb : (x == ("__debug__" : Str)) = false := by decide) (he : starEach (e :: es) X.env = (false, eval e X.env) :: starEach es X.env := by rfl) (hpl : (backTo pos (starEach es X.env)).any (·.1) = false := by rfl) :
    PE X (.Call (.Name x p) (e :: es) [] pos) (tMkV C sp ta) := ⟨fun pins s σ H Q I h => by
  obtain ⟨nm, q, N, bs, bm, sn, sub, ab, col, dd, k0, k1, k2, k3, k5, hC, hbm⟩ := T.cls
  refine wpAny_Call_Name_kw (ld_glob I hg hm ?_ hdb)
  refine PySem.W.callWith_K (h₀ := X.base) I.ok.mod.kin T.kC (thn (ha.run pos pins s σ H _ I h) fun us s1 got => ?_) he hpl
  obtain ⟨vs, H1, I1, r1, y, rfl, q1⟩ := got
  refine ⟨I1.kIn, ?_⟩
  obtain ⟨hp, g, dr, tk, os⟩ := s1
  have up : ∀ b o, hp.get? b = some o → ((hp.push (PySem.W.kdv_tup us)).push (excO C hp.objs.size)).get? b = some o := fun b o z => Heap.get?_push_of_some _ (Heap.get?_push_of_some _ z)
  have hnew : ((hp.push (PySem.W.kdv_tup us)).push (excO C hp.objs.size)).get? (hp.objs.size + 1) = some (excO C hp.objs.size) := by heap_get
  have I2 : Inv X pins σ (upd H1 (hp.objs.size + 1) (exo (hp.objs.size + 1) C none)) ⟨(hp.push (PySem.W.kdv_tup us)).push (excO C hp.objs.size), g, dr, tk, os⟩ :=
    I1.laid (t' := tk) (a := hp.objs.size + 1) (o := exo (hp.objs.size + 1) C none) (h' := (hp.push (PySem.W.kdv_tup us)).push (excO C hp.objs.size)) up (Nat.le_succ _) (exo_ok hnew)
  have hsp := q1 (hp.objs.size + 1) (I1.hok.fresh (Nat.le_succ _))
  have r2 : Vals [V.ref (hp.objs.size + 1), y] (Value.ref (hp.objs.size + 1) :: us) := .cons rfl r1
  have hl : (Value.ref (hp.objs.size + 1) :: us ++ []).length = ps.length := by
    rw [List.append_nil, ← F1.len _ _ _ _ hsp, r2.length]
  have hb1 := hb ⟨(hp.push (PySem.W.kdv_tup us)).push (excO C hp.objs.size), g, dr, tk, os⟩ (Value.ref (hp.objs.size + 1) :: us) I2.kIn hl
  rw [List.append_nil] at hb1
  have hus : us.length ≤ sizeLine := by
    rw [← Paired.length r1, sizeLine_eq]
    exact (by decide : 1 ≤ 16777216)
  show wpAny _ _ (call (.ref C) us) _ _ _
  refine wpAny_call (call_own F.excBase_ValueError (fun Y => refsVE_contains Y bm hbm) (I1.kIn _ _ hC) (PySem.W.looks_findIn I1.kIn iC) (fun self => PySem.W.bind_fn I1.kIn self tI) hus ?_)
  refine codeAny_mono (F1.run _ X.stack _ _ ⟨Value.ref (hp.objs.size + 1) :: us, []⟩ (Value.ref (hp.objs.size + 1) :: us) _ _ (fun _ _ _ => False) (hr.make C us []) (I2.env0.make C us []) hb1 r2 hsp) fun r s' hq => ?_
  have z := mkv_end (E := fun _ _ _ => False) I2 hx hq
  rcases r with er | (_ | _ | _ | u) <;> exact z⟩
/-- C(n = e) -/
theorem pe_oexK (T : OexC X.K C) (iC : PySem.W.findIn X.K (.ref C) "__init__" = some (some (.ref fI))) (tI : PySem.W.typeIn X.K (.ref fI) = some (.type "function"))
    (F1 : FnOk X.prog X.w X.K X.mg X.base CX k fI fd ps sp) (hr : Room (k + 1) X.A) (hb : ∀ (s : Shared) (a u : Value), BindsTo s fd ⟨[a], [(n, u)]⟩ (ps.zip [a, u])) (hx : Passes CX X (fun _ _ _ => False)) (hg : Gl X x) (hm : X.mg x = some (.ref C)) (hkw : PK X kws ta)
    (hall : (backToKw pos (keywordEach kws X.env)).all (·.1.isSome) = true := by rfl) (hks : (backToKw pos (keywordEach kws X.env)).filterMap (·.1) = [n] := by rfl) (hdb : (x == ("__debug__" : Str)) = false := by decide)
    (hpl : ((backTo pos (starEach [] X.env)).any (·.1) || (backToKw pos (keywordEach kws X.env)).any (·.1.isNone)) = false := by rfl) :
    PE X (.Call (.Name x p) [] kws pos) (tMkV C sp ta) := ⟨fun pins s σ H Q I h => by
  obtain ⟨nm, q, N, bs, bm, sn, sub, ab, col, dd, k0, k1, k2, k3, k5, hC, hbm⟩ := T.cls
  refine wpAny_Call_Name_kw (ld_glob I hg hm ?_ hdb)
  refine PySem.W.callWith_KW0 (h₀ := X.base) I.ok.mod.kin T.kC hall ?_ hpl
  refine thn (hkw.run pos pins s σ H _ I h) fun us s1 got => ?_
  obtain ⟨vs, H1, I1, r1, y, rfl, q1⟩ := got
  refine ⟨I1.kIn, ?_⟩
  rw [hks]
  obtain ⟨u, rfl, ru⟩ := vals1 r1
  obtain ⟨hp, g, dr, tk, os⟩ := s1
  have up : ∀ b o, hp.get? b = some o → ((hp.push (PySem.W.kdv_tup [])).push (excO C hp.objs.size)).get? b = some o := fun b o z => Heap.get?_push_of_some _ (Heap.get?_push_of_some _ z)
  have hnew : ((hp.push (PySem.W.kdv_tup [])).push (excO C hp.objs.size)).get? (hp.objs.size + 1) = some (excO C hp.objs.size) := by heap_get
  have I2 : Inv X pins σ (upd H1 (hp.objs.size + 1) (exo (hp.objs.size + 1) C none)) ⟨(hp.push (PySem.W.kdv_tup [])).push (excO C hp.objs.size), g, dr, tk, os⟩ :=
    I1.laid (t' := tk) (a := hp.objs.size + 1) (o := exo (hp.objs.size + 1) C none) (h' := (hp.push (PySem.W.kdv_tup [])).push (excO C hp.objs.size)) up (Nat.le_succ _) (exo_ok hnew)
  have hsp := q1 (hp.objs.size + 1) (I1.hok.fresh (Nat.le_succ _))
  have r2 : Vals [V.ref (hp.objs.size + 1), y] [Value.ref (hp.objs.size + 1), u] := .cons rfl (.cons ru .nil)
  show wpAny _ _ (call (.ref C) [] [(n, u)]) _ _ _
  refine wpAny_call (kw_call F.excBase_ValueError (fun Y => refsVE_contains Y bm hbm) rfl (I1.kIn _ _ hC) (PySem.W.looks_findIn I1.kIn iC) (fun self => PySem.W.bind_fn I1.kIn self tI) ?_)
  refine codeAny_mono (F1.run _ X.stack _ _ ⟨[Value.ref (hp.objs.size + 1)], [(n, u)]⟩ [Value.ref (hp.objs.size + 1), u] _ _ (fun _ _ _ => False) (hr.make C [] [(n, u)]) (I2.env0.make C [] [(n, u)]) (hb _ _ _) r2 hsp) fun r s' hq => ?_
  have z := mkv_end (E := fun _ _ _ => False) I2 hx hq
  rcases r with er | (_ | _ | _ | v) <;> exact z⟩
/-- what the written part says of the class, so that an object of it may be read and asked -/
structure ExV (K : PySem.W.Frag) (C : Addr) : Prop where
  ga : PySem.W.findIn K (.ref C) "__getattribute__" = some (some (.builtin "BaseException.__getattribute__"))
  gg : PySem.W.findIn K (.ref C) "__getattr__" = some none
  ex : PySem.W.subIn K (.ref C) (.type "BaseException") = some true
  hd : PySem.W.hasDictIn K C = true
  ac : PySem.W.findIn K (.ref C) "__class__" = some (some (.builtin "object.__class__"))
  sn : PySem.W.specialIn K (.builtin "object.__class__") "__get__" = some (some (.builtin "getset_descriptor.__get__"))
  tk : PySem.W.takesIn K (.builtin "object.__class__") = some true
  mr : PySem.W.mroIn K C (.type "object") = some true
/-- e.f of such an object, f in its own dict -/
def tXv (K : PySem.W.Frag) (f : Str) (te : TE) : TE := fun σ H Q => te σ H fun x H1 => ∃ (a C dx : Addr) (fs : List (Str × V)) (v : V), x = .ref a ∧ H1 a = some (exo a C (some dx)) ∧ H1 dx = some (exd dx fs) ∧ ExV K C ∧ PySem.W.findIn K (.ref C) f = some none ∧ fs.lookup f = some v ∧ Q v H1
theorem pe_xv {o : Expr} {to : TE} {f : Str} (he : PE X o to) (hb : attributeBase o f X.env (eval o X.env) = eval o X.env := by rfl) : PE X (.Attribute o f pos) (tXv X.K f to) := ⟨fun pins s σ H Q I h => by
  refine attr_of hb (thn (he.run pins s σ H _ I h) fun u s1 got => ?_)
  obtain ⟨x, H1, I1, rx, a, C, dx, fs, v, rfl, ea, ed, T, hno, hl, q⟩ := got
  obtain rfl : u = Value.ref a := rx
  obtain ⟨t1, ho⟩ := exo_at I1.hok ea
  obtain ⟨mA, hns, hrel⟩ := exd_at I1.hok ed
  obtain ⟨od, hod, look⟩ := lookIn_ns hns
  obtain ⟨u, hu, ru⟩ := RelO.some_of (v := v) (o := mA f) (by rw [← hl]; exact hrel f)
  have J : PySem.W.InstAt s1.heap a { cls := .ref C, dict := some dx, data := .fields #[.ref t1, .none, .none, .none, .bool false, .none] } C (some od) := ⟨ho, rfl, rfl, hod⟩
  exact exc_get I1.kIn J T.ga T.gg T.ex (PySem.W.findObj_own T.hd hno rfl (by rw [look, hu])) (handed_of ru) ⟨v, H1, I1.tok _, ru, q⟩⟩
/-- isinstance(e, c) of such an object -/
def rIsV (K : PySem.W.Frag) : List V → Hp → VK → Prop := fun xs H Q => ∃ (a C dx : Addr) (fs : List (Str × V)) (c : V) (u : Value) (b : Bool), xs = [.ref a, c] ∧ ClsV c u ∧ H a = some (exo a C (some dx)) ∧ H dx = some (exd dx fs) ∧ ExV K C ∧ PySem.W.kitOne K (.ref C) u = some b ∧ Q (.bl b) H
/-- isinstance(e, (c1, c2, ..)) -/
def rIsVT (K : PySem.W.Frag) : List V → Hp → VK → Prop := fun xs H Q => ∃ (a C dx tp : Addr) (fs : List (Str × V)) (cs : List V) (us : List Value) (b : Bool), xs = [.ref a, .ref tp] ∧ H tp = some (.tup cs) ∧ Paired ClsV cs us ∧ H a = some (exo a C (some dx)) ∧ H dx = some (exd dx fs) ∧ ExV K C ∧
  PySem.W.kitAny K (.ref C) us = some b ∧ Q (.bl b) H
theorem ExV.kit {K : PySem.W.Frag} {C a : Addr} {ox : Obj} {od : Option Obj} (T : ExV K C) : PySem.W.KitX K (.ref a) (.ref C) (fun h => PySem.W.InstAt h a ox C od) := by
  obtain ⟨cd, hc, _⟩ := PySem.W.any_some T.hd
  exact PySem.W.kitx_exc (by rw [hc]; rfl) T.ga T.gg T.ex T.ac T.sn T.tk T.mr
theorem inst_of {pins : List (Addr × Obj)} {σ : L2.St} {H : Hp} {s : Shared} {a dx : Addr} {fs : List (Str × V)} (I : Inv X pins σ H s) (ea : H a = some (exo a C (some dx))) (ed : H dx = some (exd dx fs)) : ∃ ox od, PySem.W.InstAt s.heap a ox C (some od) := by
  obtain ⟨t1, ho⟩ := exo_at I.hok ea
  obtain ⟨mA, hns, _⟩ := exd_at I.hok ed
  obtain ⟨od, hod, _⟩ := lookIn_ns hns
  exact ⟨_, od, ho, rfl, rfl, hod⟩
theorem call_isV : CallR X (.builtin "isinstance") (rIsV X.K) := by
  intro pins s σ H xs us Q I r h
  obtain ⟨a, C, dx, fs, c, u, b, rfl, k, ea, ed, T, e, q⟩ := h
  obtain ⟨u1, u2, rfl, r1, r2⟩ := vals2 r
  obtain rfl : u1 = Value.ref a := r1
  have e2 := k.eq r2
  subst e2
  obtain ⟨ox, od, J⟩ := inst_of I ea ed
  exact PySem.W.kia_one T.kit I.kIn J e (fun z => nomatch z) fun tk => ⟨.bl b, H, I.tok tk, rfl, q⟩
theorem call_isVT : CallR X (.builtin "isinstance") (rIsVT X.K) := by
  intro pins s σ H xs us Q I r h
  obtain ⟨a, C, dx, tp, fs, cs, vs, b, rfl, etp, k, ea, ed, T, e, q⟩ := h
  obtain ⟨u1, u2, rfl, r1, r2⟩ := vals2 r
  obtain rfl : u1 = Value.ref a := r1
  obtain rfl : u2 = Value.ref tp := r2
  obtain ⟨ox, od, J⟩ := inst_of I ea ed
  obtain ⟨_, its, rv, ob, ho, hc, n, hd⟩ := (show ObjOk X.prog X.w H s.heap tp (.tup cs) from I.hok tp _ etp)
  have ei := ClsV.all k rv
  subst ei
  obtain ⟨oc, od', oda, osl⟩ := ob
  dsimp only at hc hd
  subst hc hd
  exact PySem.W.kia_tup T.kit I.kIn J ho e (fun z => nomatch z) fun tk => ⟨.bl b, H, I.tok tk, rfl, q⟩
end
end Ev

set_option maxHeartbeats 2000000
/-! Readings step by step: one small lemma a construct, tried by one word. -/
namespace Ev
open PySem PySem.Spec PyProof.Rows L2
section
variable {K : PySem.W.Frag} {σ : L2.St} {H : Hp} {Q : VK} {D : Ends} {ta tb tc te : TE} {x y v : V} {xs ys : List V} {t u : TS} {a p l b : Addr} {o o' : HO} {i j : Int}
/-! heaps -/
theorem lk_new {u : HO} (h : H a = some u) (hp : H p = none) : upd H p o a = some u := by
  rw [upd_ne (ne_of_none h hp)]
  exact h
theorem lk_ne {u : HO} (ne : a ≠ p) (h : H a = some u) : upd H p o a = some u := by
  rw [upd_ne ne]
  exact h
theorem no_new (h : H a = none) (ne : a ≠ p) : upd H p o a = none := by
  rw [upd_ne ne]
  exact h
theorem no_back (h : upd H p o a = none) : H a = none := by
  by_cases e : a = p
  · subst e
    rw [upd_same] at h
    cases h
  · rw [upd_ne e] at h
    exact h
theorem ne_back (h : upd H p o a = none) : a ≠ p := fun e => by
  subst e
  rw [upd_same] at h
  cases h
theorem upd_none : upd H p o a = none ↔ a ≠ p ∧ H a = none := ⟨fun h => ⟨ne_back h, no_back h⟩, fun h => no_new h.2 h.1⟩
theorem lk_new' {u : HO} (hp : H p = none) (h : H a = some u) : upd H p o a = some u := lk_new h hp
/-! values -/
theorem rd_var {i : Nat} (h : σ[i]? = some (some v)) (q : Q v H) : tVar i σ H Q := ⟨v, h, q⟩
theorem rd_c (q : Q v H) : tC v σ H Q := q
theorem rd_op {r : R2} (h : ta σ H fun x H1 => tb σ H1 fun y H2 => r x y H2 Q) : tOp r ta tb σ H Q := h
theorem rd_un {r : V → Hp → VK → Prop} (h : ta σ H fun x H1 => r x H1 Q) : tUn r ta σ H Q := h
theorem rd_rI0 {g : Int → Int → V} (q : Q (g i j) H) : rI0 g (.int i) (.int j) H Q := ⟨i, j, rfl, rfl, q⟩
theorem rd_rI {C : Int → Int → Prop} {g : Int → Int → V} (c : C i j) (q : Q (g i j) H) : rI C g (.int i) (.int j) H Q := ⟨i, j, rfl, rfl, c, q⟩
theorem rd_rU {g : Int → V} (q : Q (g i) H) : rU g (.int i) H Q := ⟨i, rfl, q⟩
theorem rd_ixL (h : SqL K H a xs) (e : atI xs i = some v) (q : Q v H) : rIxL K (.ref a) (.int i) H Q := ⟨a, xs, i, v, rfl, rfl, h, e, q⟩
theorem rd_ixT (h : SqT K H a xs) (e : atI xs i = some v) (q : Q v H) : rIxT K (.ref a) (.int i) H Q := ⟨a, xs, i, v, rfl, rfl, h, e, q⟩
theorem rd_eq (h : scal x y = true) (q : Q (.bl (decide (x = y))) H) : rEq x y H Q := ⟨h, q⟩
theorem rd_ne (h : scal x y = true) (q : Q (.bl (!decide (x = y))) H) : rNe x y H Q := ⟨h, q⟩
theorem rd_tup {ta : TA} (h : ta σ H fun xs H1 => xs.length ≤ sizeLine ∧ ∀ p, H1 p = none → Q (.ref p) (upd H1 p (.tup xs))) : tTup ta σ H Q := h
theorem rd_lst {ta : TA} (h : ta σ H fun xs H1 => xs.length ≤ sizeLine ∧ ∀ p, H1 p = none → Q (.ref p) (upd H1 p (.lst xs))) : tLst ta σ H Q := h
theorem rd_size {n : Nat} {A : Prop} (hn : n ≤ 16777216) (h : A) : n ≤ sizeLine ∧ A := ⟨by rw [sizeLine_eq]; exact hn, h⟩
theorem rd_nil {Q : List V → Hp → Prop} (q : Q [] H) : tNil σ H Q := q
theorem rd_cons {tr : TA} {Q : List V → Hp → Prop} (h : ta σ H fun x H1 => tr σ H1 fun xs H2 => Q (x :: xs) H2) : tCons ta tr σ H Q := h
theorem rd_cb {r : List V → Hp → VK → Prop} {t : TA} (h : t σ H fun vs H1 => r vs H1 Q) : tCB r t σ H Q := h
theorem rd_call {sp : Sp} {dvs : List V} {E : XK} {t : TA} (h : t σ H fun vs H1 => sp (vs ++ dvs) H1 Q E) : tCall sp dvs E t σ H Q := h
theorem rd_sl {r : V → Option Int → Option Int → Hp → VK → Prop} {tl th : TO} (h : te σ H fun x H1 => tl σ H1 fun l H2 => th σ H2 fun u H3 => r x l u H3 Q) : tSl r te tl th σ H Q := h
theorem rd_no {Q : Option Int → Hp → Prop} (q : Q none H) : tNoPart σ H Q := q
theorem rd_part {Q : Option Int → Hp → Prop} (h : te σ H fun x H1 => ∃ i, x = .int i ∧ Q (some i) H1) : tPart te σ H Q := h
theorem rd_ex {Q : Int → Prop} (q : Q i) : ∃ j : Int, V.int i = .int j ∧ Q j := ⟨i, rfl, q⟩
theorem rd_slL {lo hi : Option Int} (h : SqL K H a xs) (q : ∀ p, H p = none → Q (.ref p) (upd H p (.lst (cutV xs lo hi)))) : rSlL K (.ref a) lo hi H Q := ⟨a, xs, rfl, h, q⟩
theorem rd_cat (h1 : H a = some (.lst xs)) (h2 : H b = some (.lst ys)) (hz : xs.length + ys.length ≤ 16777216) (q : ∀ p, H p = none → Q (.ref p) (upd H p (.lst (xs ++ ys)))) : rCat (.ref a) (.ref b) H Q :=
  ⟨a, b, xs, ys, rfl, rfl, h1, h2, by rw [sizeLine_eq]; exact hz, q⟩
theorem rd_ifE {c : TT} (h : c σ H fun k H1 => if k = true then ta σ H1 Q else tb σ H1 Q) : tIf c ta tb σ H Q := h
/-! tests -/
theorem rd_test {Q : Bool → Hp → Prop} (h : te σ H fun x H1 => ∃ k, x = .bl k ∧ Q k H1) : tTest te σ H Q := h
theorem rd_tB {Q : Bool → Hp → Prop} (h : te σ H fun x H1 => ∃ k, x = .bl k ∧ Q k H1) : tB te σ H Q := h
theorem rd_bl {c : Bool} {Q : Bool → Prop} (q : Q c) : ∃ k, V.bl c = .bl k ∧ Q k := ⟨c, rfl, q⟩
theorem rd_not {c : TT} {Q : Bool → Hp → Prop} (h : c σ H fun k H1 => Q (!k) H1) : tNot c σ H Q := h
theorem rd_and {c d : TT} {Q : Bool → Hp → Prop} (h : c σ H fun k H1 => if k = true then d σ H1 Q else Q false H1) : tAnd c d σ H Q := h
theorem rd_or {c d : TT} {Q : Bool → Hp → Prop} (h : c σ H fun k H1 => if k = true then Q true H1 else d σ H1 Q) : tOr c d σ H Q := h
theorem rd_notV (h : ta σ H fun x H1 => ∃ c, x = .bl c ∧ Q (.bl (!c)) H1) : tNotV ta σ H Q := h
theorem rd_andV (h : ta σ H fun x H1 => ∃ c, x = .bl c ∧ if c = true then tb σ H1 Q else Q (.bl false) H1) : tAndV ta tb σ H Q := h
theorem rd_orV (h : ta σ H fun x H1 => ∃ c, x = .bl c ∧ if c = true then Q (.bl true) H1 else tb σ H1 Q) : tOrV ta tb σ H Q := h
/-! statements -/
theorem rd_seq (h : t { D with nx := u D } σ H) : tSeq t u D σ H := h
theorem rd_next (h : D.nx σ H) : tNext D σ H := h
theorem rd_ret (h : te σ H D.rt) : tRet te D σ H := h
theorem rd_retN (h : D.rt .non H) : tRetN D σ H := h
theorem rd_if {c : TT} (h : c σ H fun k H1 => if k = true then t D σ H1 else u D σ H1) : tIfS c t u D σ H := h
theorem rd_drop (h : te σ H fun _ H1 => D.nx σ H1) : tDrop te D σ H := h
theorem rd_asg {g : TG} (h : te σ H fun x H1 => g x σ H1 D.nx) : tAsg te g D σ H := h
theorem rd_name {i : Nat} {Q : L2.St → Hp → Prop} (q : Q (σ.set i (some v)) H) : gName i v σ H Q := q
theorem rd_gtup {n : Nat} {g : TGs} {Q : L2.St → Hp → Prop} (h : SqT K H a xs) (e : xs.length = n) (q : g xs σ H Q) : gTup K n g (.ref a) σ H Q := ⟨a, xs, rfl, h, e, q⟩
theorem rd_gnil {Q : L2.St → Hp → Prop} (q : Q σ H) : gNil [] σ H Q := ⟨rfl, q⟩
theorem rd_gcons {g : TG} {gs : TGs} {Q : L2.St → Hp → Prop} (q : g v σ H fun σ' H' => gs xs σ' H' Q) : gCons g gs (v :: xs) σ H Q := ⟨v, xs, rfl, q⟩
theorem rd_gsub {to ti : TE} {s : TSet} {Q : L2.St → Hp → Prop} (h : to σ H fun o H1 => ti σ H1 fun i H2 => s o i v H2 fun H3 => Q σ H3) : gSub to ti s v σ H Q := h
theorem rd_setL {k : Nat} {Q : Hp → Prop} (h : H a = some (.lst xs)) (e : ixN xs.length i = some k) (q : Q (upd H a (.lst (xs.set k v)))) : rSetL (.ref a) (.int i) v H Q := ⟨a, xs, i, k, rfl, rfl, h, e, q⟩
/-! ifs -/
theorem rd_ite {p : Prop} [Decidable p] {A B : Prop} (h1 : p → A) (h2 : ¬ p → B) : if decide p = true then A else B := by
  by_cases h : p
  · rw [if_pos (decide_eq_true h)]
    exact h1 h
  · rw [if_neg (by rw [decide_eq_false h]; exact Bool.false_ne_true)]
    exact h2 h
theorem rd_iteN {p : Prop} [Decidable p] {A B : Prop} (h1 : ¬ p → A) (h2 : p → B) : if (!decide p) = true then A else B := by
  by_cases h : p
  · rw [if_neg (by rw [decide_eq_true h]; exact Bool.false_ne_true)]
    exact h2 h
  · rw [if_pos (by rw [decide_eq_false h]; rfl)]
    exact h1 h
theorem rd_T {A B : Prop} (h : A) : if true = true then A else B := by
  rw [if_pos rfl]
  exact h
theorem rd_F {A B : Prop} (h : B) : if false = true then A else B := by
  rw [if_neg Bool.false_ne_true]
  exact h
theorem rd_True {A B : Prop} {i : Decidable True} (h : A) : @ite Prop True i A B := by
  rw [if_pos trivial]
  exact h
theorem rd_False {A B : Prop} {i : Decidable False} (h : B) : @ite Prop False i A B := by
  rw [if_neg (fun z => z)]
  exact h
/-! built-ins -/
theorem rd_int {A : Int → Prop} {B : Prop} (q : A i) : (∃ j, [V.int i] = [.int j] ∧ A j) ∨ B := .inl ⟨i, rfl, q⟩
theorem rd_intB {c : Bool} {A : Int → Prop} (q : A (if c then 1 else 0)) : (∃ j, [V.bl c] = [.int j] ∧ A j) ∨ ∃ k, [V.bl c] = [.bl k] ∧ A (if k then 1 else 0) := .inr ⟨c, rfl, q⟩
theorem rd_one {A : Int → Prop} (q : A i) : ∃ j, [V.int i] = [.int j] ∧ A j := ⟨i, rfl, q⟩
theorem rd_two {A : Int → Int → Prop} (q : A i j) : ∃ k l, [V.int i, V.int j] = [.int k, .int l] ∧ A k l := ⟨i, j, rfl, q⟩
theorem rd_len {A : List V → Prop} (h : SqL K H a xs) (q : A xs) : ∃ p zs, [V.ref a] = [.ref p] ∧ (SqL K H p zs ∨ SqT K H p zs) ∧ A zs := ⟨a, xs, rfl, .inl h, q⟩
theorem rd_lenT {A : List V → Prop} (h : SqT K H a xs) (q : A xs) : ∃ p zs, [V.ref a] = [.ref p] ∧ (SqL K H p zs ∨ SqT K H p zs) ∧ A zs := ⟨a, xs, rfl, .inr h, q⟩
theorem at_int {ns : List Int} {i : Int} (h0 : 0 ≤ i) (h : i < (ns.length : Int)) : ∃ z, atI (ns.map V.int) i = some (.int z) := by
  obtain ⟨k, rfl⟩ : ∃ k : Nat, i = (k : Int) := ⟨i.toNat, by omega⟩
  have hk : k < ns.length := by omega
  exact ⟨ns[k], atI_nat (by rw [List.getElem?_map, List.getElem?_eq_getElem hk]; rfl)⟩
theorem pow_cond {i j : Int} (h0 : 0 ≤ j) (h3 : j ≤ 1000) (h1 : -10000000000000000000000000000000000000000 < i) (h2 : i < 10000000000000000000000000000000000000000) : CPowW i j := by
  have e : (10000000000000000000000000000000000000000 : Nat) < 2 ^ 2000 := by decide +kernel
  exact ⟨h0, h3, by omega⟩
/-! loops and comprehensions: first what they go over, then the turns -/
theorem rd_rng1 {ta : TA} {R : It → Hp → Prop} (h : ta σ H fun vs H1 => ∃ j : Int, vs = [.int j] ∧ -(2 ^ 62) ≤ j ∧ j < 2 ^ 62 ∧ R (Itr 0 j.toNat) H1) : iRng1 ta σ H R := h
theorem rd_rg {A : Prop} (h1 : 0 ≤ i) (h2 : i ≤ 1000000000000) (q : A) : -(2 ^ 62) ≤ i ∧ i < 2 ^ 62 ∧ A := ⟨by omega, by omega, q⟩
theorem rd_overL {R : It → Hp → Prop} (h : te σ H fun x H1 => ∃ a, x = .ref a ∧ (∃ xs, SqL K H1 a xs) ∧ R (Itl K a) H1) : iList K te σ H R := h
theorem rd_overT {R : It → Hp → Prop} (h : te σ H fun x H1 => ∃ a, x = .ref a ∧ (∃ xs, SqT K H1 a xs) ∧ R (Itt K a) H1) : iTup K te σ H R := h
theorem rd_atL {A : Addr → Prop} (h : SqL K H a xs) (q : A a) : ∃ b, V.ref a = .ref b ∧ (∃ ys, SqL K H b ys) ∧ A b := ⟨a, rfl, ⟨xs, h⟩, q⟩
theorem rd_atT {A : Addr → Prop} (h : SqT K H a xs) (q : A a) : ∃ b, V.ref a = .ref b ∧ (∃ ys, SqT K H b ys) ∧ A b := ⟨a, rfl, ⟨xs, h⟩, q⟩
theorem rd_forA {ta : TA} {g : TG} {tb : TS} (h : iRng1 ta σ H fun J H1 => tFor (fun _ H' R => R J H') g tb D σ H1) : tFor (iRng1 ta) g tb D σ H := h
theorem rd_forB {g : TG} {tb : TS} (h : iList K te σ H fun J H1 => tFor (fun _ H' R => R J H') g tb D σ H1) : tFor (iList K te) g tb D σ H := h
theorem rd_forC {g : TG} {tb : TS} (h : iTup K te σ H fun J H1 => tFor (fun _ H' R => R J H') g tb D σ H1) : tFor (iTup K te) g tb D σ H := h
theorem rd_lcA {ta : TA} {g : TG} {tt : TT} {vs : List Nat} (h : iRng1 ta σ H fun J H1 => tLc (fun _ H' R => R J H') g tt te vs σ H1 Q) : tLc (iRng1 ta) g tt te vs σ H Q := h
theorem rd_lcB {tl : TE} {g : TG} {tt : TT} {vs : List Nat} (h : iList K tl σ H fun J H1 => tLc (fun _ H' R => R J H') g tt te vs σ H1 Q) : tLc (iList K tl) g tt te vs σ H Q := h
theorem rd_lcC {tl : TE} {g : TG} {tt : TT} {vs : List Nat} (h : iTup K tl σ H fun J H1 => tLc (fun _ H' R => R J H') g tt te vs σ H1 Q) : tLc (iTup K tl) g tt te vs σ H Q := h
theorem rd_forR {lo : Int} {n : Nat} {g : TG} {tb : TS} (Pv : Nat → L2.St → Hp → Prop) (h0 : Pv 0 σ H) (hs : ∀ i σ H, i < n → Pv i σ H → g (.int (lo + i)) σ H fun σ2 H2 => tb { D with nx := Pv (i + 1), ct := Pv (i + 1), bk := D.nx } σ2 H2)
    (hd : ∀ σ H, Pv n σ H → D.nx σ H) : tFor (fun _ H' R => R (Itr lo n) H') g tb D σ H := for_range Pv h0 hs hd
theorem rd_forL {g : TG} {tb : TS} (Pv : Nat → L2.St → Hp → Prop) (h0 : Pv 0 σ H) (hl : ∀ i σ H, i ≤ xs.length → Pv i σ H → SqL K H a xs) (hs : ∀ i x σ H, xs[i]? = some x → Pv i σ H → g x σ H fun σ2 H2 => tb { D with nx := Pv (i + 1), ct := Pv (i + 1), bk := D.nx } σ2 H2)
    (hd : ∀ σ H, Pv xs.length σ H → D.nx σ H) : tFor (fun _ H' R => R (Itl K a) H') g tb D σ H := for_list Pv h0 hl hs hd
theorem rd_forT {g : TG} {tb : TS} (Pv : Nat → L2.St → Hp → Prop) (h0 : Pv 0 σ H) (hl : ∀ i σ H, i ≤ xs.length → Pv i σ H → SqT K H a xs) (hs : ∀ i x σ H, xs[i]? = some x → Pv i σ H → g x σ H fun σ2 H2 => tb { D with nx := Pv (i + 1), ct := Pv (i + 1), bk := D.nx } σ2 H2)
    (hd : ∀ σ H, Pv xs.length σ H → D.nx σ H) : tFor (fun _ H' R => R (Itt K a) H') g tb D σ H := for_tup Pv h0 hl hs hd
/-- [e for x in range(n)], e a value of the turn that makes nothing new -/
theorem rd_lcN {s n : Nat} (f : Nat → V) (hn : n ≤ 16777215) (he : ∀ (i : Nat) (H' : Hp) (Q' : VK), i < n → Q' (f i) H' → te ((σ.set s none).set s (some (.int (0 + i)))) H' Q')
    (q : ∀ l, H l = none → Q (.ref l) (upd H l (.lst ((List.range n).map f)))) : tLc (fun _ H' R => R (Itr 0 n) H') (gName s) tYes te [s] σ H Q := fun l hl => by
  have w1 : ∀ x : Option V, L2.wipe ((L2.wipe σ [s]).set s x) [s] = L2.wipe σ [s] := fun x => by
    show ((σ.set s none).set s x).set s none = σ.set s none
    rw [List.set_set, List.set_set]
  refine lc_range (fun i H' => H' = upd H l (.lst ((List.range i).map f))) rfl (fun i H' hi e => ?_) (fun H' e => ?_)
  · subst e
    refine ⟨w1 _, ?_⟩
    dsimp only [tYes]
    rw [if_pos rfl]
    refine he i _ _ hi ?_
    refine ⟨_, upd_same, ?_, ?_⟩
    · rw [List.length_map, List.length_range, sizeLine_eq]
      omega
    · rw [upd_upd, List.range_succ, List.map_append]
      rfl
  · subst e
    exact q l hl
theorem rd_strs {i j : Str} {A : Str → Str → Prop} (hz : i.length + j.length ≤ sizeLine) (q : A i j) : ∃ k l, V.str i = .str k ∧ V.str j = .str l ∧ k.length + l.length ≤ sizeLine ∧ A k l := ⟨i, j, rfl, rfl, hz, q⟩
/-- xs.append(e) -/
theorem rd_bm {T : String} {r : V → List V → Hp → VK → Prop} {t : TA} (h : te σ H fun x H1 => tyV K T x H1 ∧ t σ H1 fun xs H2 => r x xs H2 Q) : tBM K T r te t σ H Q := h
theorem rd_tyL {A : Prop} (h : SqL K H a xs) (q : A) : tyV K "list" (.ref a) H ∧ A := ⟨.inl ⟨rfl, xs, h⟩, q⟩
theorem rd_append (h : H a = some (.lst xs)) (hz : xs.length < 16777216) (q : Q .non (upd H a (.lst (xs ++ [y])))) : rAppend (.ref a) [y] H Q := ⟨a, xs, y, rfl, rfl, h, by rw [sizeLine_eq]; exact hz, q⟩
/-- a text of what x is -/
theorem rd_repr {d : PyData} (h : Dp K H x d) (h1 : d.showable = true) (h2 : d.hasDict = false) (h3 : d.depth ≤ 100) (h4 : d.shown.length ≤ sizeLine) (q : Q (.str d.shown) H) : rRepr K [x] H Q := ⟨x, d, rfl, h, h1, h2, h3, h4, q⟩
end
/-! ### exceptions as values -/
/-- at a: an error of the class at C with this value -/
def ExAt (H : Hp) (a C : Addr) (v : V) : Prop := ∃ d, H a = some (exo a C (some d)) ∧ H d = some (exd d [(("value" : Str), v)])
theorem ExAt.mono {H H' : Hp} {a C : Addr} {v : V} (h : ExAt H a C v) (s : Same H H') : ExAt H' a C v := by
  obtain ⟨d, h1, h2⟩ := h
  exact ⟨d, s _ _ h1, s _ _ h2⟩
/-- the error class x at C -/
structure ExT (K : PySem.W.Frag) (mg : Str → Option Value) (x : Str) (C fI : Addr) : Prop where
  c : OexC K C
  i : PySem.W.findIn K (.ref C) "__init__" = some (some (.ref fI))
  t : PySem.W.typeIn K (.ref fI) = some (.type "function")
  g : mg x = some (.ref C)
  v : ExV K C
  n : PySem.W.findIn K (.ref C) "value" = some none
theorem ExAt.put {H : Hp} {a C p : Addr} {v : V} {xs : List V} {o : HO} (h : ExAt H a C v) (hp : H p = some (.lst xs)) : ExAt (upd H p o) a C v := by
  obtain ⟨d, h1, h2⟩ := h
  have n1 : a ≠ p := ne_of h1 hp fun z => by
    have z' : HO.ext _ = HO.lst xs := z
    cases z'
  have n2 : d ≠ p := ne_of h2 hp fun z => by
    have z' : HO.ext _ = HO.lst xs := z
    cases z'
  exact ⟨d, lk_ne n1 h1, lk_ne n2 h2⟩
/-- self.value = value -/
def spInit (K : PySem.W.Frag) : Sp := fun vs H Q _ => ∃ (a C : Addr) (v : V), vs = [.ref a, v] ∧ H a = some (exo a C none) ∧ OexC K C ∧ PySem.W.findIn K (.ref C) "value" = some none ∧
  ∀ d, H d = none → d ≠ a → Q .non (upd (upd H d (exd d [(("value" : Str), v)])) a (exo a C (some d)))
theorem same_lk {H H' : Hp} {a : Addr} {u : HO} (s : Same H H') (h : H a = some u) : H' a = some u := s _ _ h
theorem same_new {H H' : Hp} {p : Addr} {o : HO} (s : Same H H') (h : H' p = none) : Same H (upd H' p o) := fun b u e => lk_new (s b u e) h
theorem same_put {H H' : Hp} {p : Addr} {o : HO} (s : Same H H') (h : H p = none) : Same H (upd H' p o) := fun b u e => by
  rw [upd_ne (ne_of_none e h)]
  exact s b u e
theorem Same.new {H : Hp} {p : Addr} {o : HO} (h : H p = none) : Same H (upd H p o) := fun b u e => lk_new e h
section
variable {K : PySem.W.Frag} {mg : Str → Option Value} {σ : L2.St} {H : Hp} {v : V} {x : Str} {C fI : Addr}
theorem rd_mk {Q : Addr → Hp → Prop} (T : ExT K mg x C fI) (q : ∀ a H', ExAt H' a C v → Same H H' → H a = none → Q a H') :
    ∃ y, [v] = [y] ∧ ∀ a, H a = none → spInit K [.ref a, y] (upd H a (exo a C none)) (fun u H2 => u = .non ∧ Q a H2) (fun _ _ _ => False) := by
  refine ⟨v, rfl, fun a ha => ⟨a, C, v, rfl, upd_same, T.c, T.n, fun d hd ne => ⟨rfl, q a _ ⟨d, upd_same, ?_⟩ (fun b o e => ?_) ha⟩⟩⟩
  · rw [upd_ne ne, upd_same]
  · have h1 : b ≠ a := ne_of_none e ha
    have h2 : b ≠ d := ne_of_none (lk_new e ha) hd
    rw [upd_ne h1, upd_ne h2, upd_ne h1]
    exact e
theorem rd_mkv {sp : Sp} {ta : TA} {Q : VK} (h : ta σ H fun vs H1 => ∃ y, vs = [y] ∧ ∀ a, H1 a = none → sp [.ref a, y] (upd H1 a (exo a C none)) (fun v H2 => v = .non ∧ Q (.ref a) H2) (fun _ _ _ => False)) : tMkV C sp ta σ H Q := h
theorem rd_xv {Q : VK} {te : TE} {f : Str} (h : te σ H fun x H1 => ∃ (a C dx : Addr) (fs : List (Str × V)) (v : V), x = .ref a ∧ H1 a = some (exo a C (some dx)) ∧ H1 dx = some (exd dx fs) ∧ ExV K C ∧ PySem.W.findIn K (.ref C) f = some none ∧ fs.lookup f = some v ∧ Q v H1) : tXv K f te σ H Q := h
theorem rd_value {a : Addr} {Q : V → Prop} (h : ExAt H a C v) (T : ExT K mg x C fI) (q : Q v) :
    ∃ (a' C : Addr) (dx : Addr) (fs : List (Str × V)) (v' : V), V.ref a = .ref a' ∧ H a' = some (exo a' C (some dx)) ∧ H dx = some (exd dx fs) ∧ ExV K C ∧ PySem.W.findIn K (.ref C) "value" = some none ∧ fs.lookup ("value" : Str) = some v' ∧ Q v' := by
  obtain ⟨d, h1, h2⟩ := h
  exact ⟨a, C, d, _, v, rfl, h1, h2, T.v, T.n, by simp [List.lookup], q⟩
/-- isinstance(e, c) -/
theorem rd_isV {a : Addr} {c : V} {u : Value} {b : Bool} {Q : VK} (h : ExAt H a C v) (T : ExV K C) (hc : ClsV c u) (e : PySem.W.kitOne K (.ref C) u = some b) (q : Q (.bl b) H) : rIsV K [.ref a, c] H Q := by
  obtain ⟨d, h1, h2⟩ := h
  exact ⟨a, C, d, _, c, u, b, rfl, hc, h1, h2, T, e, q⟩
theorem rd_isi {y c : V} {t u : Value} {b : Bool} {Q : VK} (hc : ClsV c u) (ty : TyX K H y t) (e : PySem.W.kitOne K t u = some b) (q : Q (.bl b) H) : rIsi K [y, c] H Q := ⟨y, c, t, u, b, rfl, hc, ty, e, q⟩
end
end Ev

set_option maxHeartbeats 2000000
/-! Caught errors of own classes with a value of their own; makings that may raise in a try; enumerate. -/
namespace Ev
open PySem PySem.Spec PyProof.Rows L2 PySem.HandSPX
/-- what the suite knows of its error -/
structure Held (K : PySem.W.Frag) (H : Hp) (cls : Value) (d : Option Addr) (C : Addr) (fs : List (Str × V)) : Prop where
  c : cls = .ref C
  d : ∃ dd, d = some dd ∧ H dd = some (.xd fs)
  v : ExV K C
theorem held_at {X : Cx} {pins : List (Addr × Obj)} {pn : List (Addr × Obj)} {σ : L2.St} {H : Hp} {s : Shared} {a C : Addr} {oe : Obj} {cls : Value} {d : Option Addr} {fs : List (Str × V)} (I : Inv (X.suite a ((a, oe) :: pn)) pins σ H s) (hz : Zc cls d oe) (hf : ∃ vs, oe.data = .fields vs)
    (h : Held X.K H cls d C fs) : ∃ od : Obj, PySem.W.InstAt s.heap a oe C (some od) ∧ ∀ (f : Str) (v : V), fs.lookup f = some v → ∃ u, PySem.W.lookIn f od = some (some u) ∧ RelV v u := by
  obtain ⟨rfl, ⟨dd, rfl, ed⟩, T⟩ := h
  obtain ⟨hat, _⟩ := I.pin (a, oe) (List.mem_append_left _ List.mem_cons_self)
  obtain ⟨vs, hv⟩ := hf
  obtain ⟨mA, hns, hrel⟩ := (show ObjOk X.prog X.w H s.heap dd (.xd fs) from I.hok dd _ ed)
  obtain ⟨od, hod, look⟩ := lookIn_ns hns
  refine ⟨od, ⟨hat, hz.1, ?_, ?_⟩, fun f v hl => ?_⟩
  · unfold PySem.W.notCls
    rw [hv] <;> rfl
  · rw [hz.2]
    exact hod
  · obtain ⟨u, hu, ru⟩ := RelO.some_of (v := v) (o := mA f) (by rw [← hl]; exact hrel f)
    exact ⟨u, by rw [look, hu], ru⟩
/-- e.f, e the error that the suite holds -/
def tXs (K : PySem.W.Frag) (a : Addr) (cls : Value) (d : Option Addr) (f : Str) (te : TE) : TE := fun σ H Q => te σ H fun x H1 => x = .ref a ∧ ∃ (C : Addr) (fs : List (Str × V)) (v : V), Held K H1 cls d C fs ∧ PySem.W.findIn K (.ref C) f = some none ∧ fs.lookup f = some v ∧ Q v H1
section
variable {X : Cx} {a : Addr} {oe : Obj} {cls : Value} {d : Option Addr} {pn : List (Addr × Obj)} {pos : Pos}
theorem pe_xs {o : Expr} {to : TE} {f : Str} (hz : Zc cls d oe) (hf : ∃ vs, oe.data = .fields vs) (he : PE (X.suite a ((a, oe) :: pn)) o to) (hb : attributeBase o f X.env (eval o X.env) = eval o X.env := by rfl) :
    PE (X.suite a ((a, oe) :: pn)) (.Attribute o f pos) (tXs X.K a cls d f to) := ⟨fun pins s σ H Q I h => by
  refine attr_of hb (thn (he.run pins s σ H _ I h) fun u s1 got => ?_)
  obtain ⟨x, H1, I1, rx, rfl, C, fs, v, hd, hno, hl, q⟩ := got
  obtain rfl : u = Value.ref a := rx
  obtain ⟨od, J, look⟩ := held_at I1 hz hf hd
  obtain ⟨u, hu, ru⟩ := look f v hl
  exact exc_get I1.kIn J hd.v.ga hd.v.gg hd.v.ex (PySem.W.findObj_own hd.v.hd hno rfl hu) (handed_of ru) ⟨v, H1, I1.tok _, ru, q⟩⟩
/-- isinstance(e, c), isinstance(e, (c1, c2, ..)) -/
def rIsS (K : PySem.W.Frag) (a : Addr) (cls : Value) (d : Option Addr) : List V → Hp → VK → Prop := fun xs H Q => ∃ (C : Addr) (fs : List (Str × V)) (c : V) (u : Value) (b : Bool), xs = [.ref a, c] ∧ ClsV c u ∧ Held K H cls d C fs ∧ PySem.W.kitOne K (.ref C) u = some b ∧ Q (.bl b) H
def rIsST (K : PySem.W.Frag) (a : Addr) (cls : Value) (d : Option Addr) : List V → Hp → VK → Prop := fun xs H Q => ∃ (C tp : Addr) (fs : List (Str × V)) (cs : List V) (us : List Value) (b : Bool), xs = [.ref a, .ref tp] ∧ H tp = some (.tup cs) ∧ Paired ClsV cs us ∧ Held K H cls d C fs ∧
  PySem.W.kitAny K (.ref C) us = some b ∧ Q (.bl b) H
theorem call_isS (hz : Zc cls d oe) (hf : ∃ vs, oe.data = .fields vs) : CallR (X.suite a ((a, oe) :: pn)) (.builtin "isinstance") (rIsS X.K a cls d) := by
  intro pins s σ H xs us Q I r h
  obtain ⟨C, fs, c, u, b, rfl, k, hd, e, q⟩ := h
  obtain ⟨u1, u2, rfl, r1, r2⟩ := vals2 r
  obtain rfl : u1 = Value.ref a := r1
  have e2 := k.eq r2
  subst e2
  obtain ⟨od, J, _⟩ := held_at I hz hf hd
  exact PySem.W.kia_one hd.v.kit I.kIn J e (fun z => nomatch z) fun tk => ⟨.bl b, H, I.tok tk, rfl, q⟩
theorem call_isST (hz : Zc cls d oe) (hf : ∃ vs, oe.data = .fields vs) : CallR (X.suite a ((a, oe) :: pn)) (.builtin "isinstance") (rIsST X.K a cls d) := by
  intro pins s σ H xs us Q I r h
  obtain ⟨C, tp, fs, cs, vs, b, rfl, etp, k, hd, e, q⟩ := h
  obtain ⟨u1, u2, rfl, r1, r2⟩ := vals2 r
  obtain rfl : u1 = Value.ref a := r1
  obtain rfl : u2 = Value.ref tp := r2
  obtain ⟨od, J, _⟩ := held_at I hz hf hd
  obtain ⟨_, its, rv, ob, ho, hc, n, hdt⟩ := (show ObjOk X.prog X.w H s.heap tp (.tup cs) from I.hok tp _ etp)
  have ei := ClsV.all k rv
  subst ei
  obtain ⟨oc, od', oda, osl⟩ := ob
  dsimp only at hc hdt
  subst hc hdt
  exact PySem.W.kia_tup hd.v.kit I.kIn J ho e (fun z => nomatch z) fun tk => ⟨.bl b, H, I.tok tk, rfl, q⟩
/-- what a making in a try may let out: the frame's slots keep their number -/
def WL (W : WX) (n : Nat) : XK := fun cls d H => ∀ σ : L2.St, σ.length = n → W cls d σ H
theorem passL {W : WX} {n : Nat} (tk : Takes X W) (e : X.N.length = n) : Passes (L2.CX X.prog X.w) X (WL W n) := fun _ σ _ _ er s' I c => tk er s' (XE.of_call I (fun _ _ _ h => h σ (I.len.trans e)) c)
end
/-! enumerate -/
section
variable {K : PySem.W.Frag} {σ : L2.St} {H : Hp} {D : Ends} {a : Addr} {xs : List V}
theorem rd_forD {ta : TA} {g : TG} {tb : TS} (h : ta σ H fun vs H1 => ∃ b ys, vs = [.ref b] ∧ SqL K H1 b ys ∧ tFor (fun _ H' R => R (Ite K b) H') g tb D σ H1) : tFor (iEnum K ta) g tb D σ H := h
theorem rd_enumL {A : Addr → Prop} (h : SqL K H a xs) (q : A a) : ∃ b ys, [V.ref a] = [.ref b] ∧ SqL K H b ys ∧ A b := ⟨a, xs, rfl, h, q⟩
theorem rd_forE {g : TG} {tb : TS} (Pv : Nat → L2.St → Hp → Prop) (h0 : Pv 0 σ H) (hl : ∀ i σ H, i ≤ xs.length → Pv i σ H → SqL K H a xs)
    (hs : ∀ (i : Nat) x σ H p, xs[i]? = some x → Pv i σ H → H p = none → g (.ref p) σ (upd H p (.tup [.int i, x])) fun σ2 H2 => tb { D with nx := Pv (i + 1), ct := Pv (i + 1), bk := D.nx } σ2 H2)
    (hd : ∀ σ H, Pv xs.length σ H → D.nx σ H) : tFor (fun _ H' R => R (Ite K a) H') g tb D σ H := by
  refine ⟨fun j left σ' H' => left = xs.length - j ∧ j ≤ xs.length ∧ Pv j σ' H', ⟨xs.length, by omega, by omega, h0⟩, fun j left σ' H' st => ?_⟩
  obtain ⟨rfl, hj, pj⟩ := st
  have hq := hl j σ' H' hj pj
  by_cases lt : j < xs.length
  · refine .inr ⟨⟨xs, xs[j], hq, List.getElem?_eq_getElem lt⟩, Pv (j + 1), fun σ2 H2 p2 => ⟨xs.length - (j + 1), by omega, rfl, by omega, p2⟩, fun v H2 y => ?_⟩
    obtain ⟨p, x, rfl, hp, rfl, hx⟩ := y
    exact hs j x σ' H' p (hx xs hq) pj hp
  · obtain rfl : j = xs.length := by omega
    exact .inl ⟨⟨xs, hq, Nat.le_refl _⟩, hd σ' H' pj⟩
end
end Ev

/-! A text as often as 0 or 1. -/
namespace Ev
open PySem PySem.Spec PyProof.Rows L2
def rep01 (i : Str) (k : Bool) : Str := if k = true then i else Str.empty
theorem op_rep01 {X : Cx} : OpR X (binaryOp .Mult) (fun x y H Q => ∃ (i : Str) (k : Bool), x = .str i ∧ y = .int (if k = true then 1 else 0) ∧ Q (.str (rep01 i k)) H) := by
  intro pins s σ H x y v u Q I rx ry h
  obtain ⟨i, k, rfl, rfl, q⟩ := h
  obtain ⟨t, rfl⟩ := rx
  obtain ⟨t', rfl⟩ := ry
  cases k with
  | true => exact P.mul_str (n := 1) (by decide) (fun _ z => absurd z (by simp)) (fun _ z => absurd z (by simp)) (by rw [if_neg (by decide), if_pos (by simp)]; exact ⟨.str i, H, I, ⟨_, rfl⟩, q⟩)
  | false => exact P.mul_str (n := 0) (by decide) (fun z => absurd (by decide) z) (fun z => absurd (by decide) z) (by rw [if_pos (by decide)]; exact ⟨by decide, .str Str.empty, H, I.tok _, ⟨_, rfl⟩, q⟩)
end Ev

/-! How long texts of lists, tuples and whole numbers are. -/
namespace Ev
open PySem PySem.Spec PyProof.Rows L2
theorem len_listText (ts : List Str) : (listText ts).length ≤ piled ts + 2 := by
  cases ts with
  | nil => exact (by decide : (listText []).length ≤ 2)
  | cons t r =>
    have e : listText (t :: r) = textFrom 1 (("[" : Str) ++ t) r ++ ("]" : Str) := rfl
    rw [e, Str.length_append, textFrom_length_pos r 1 _ (by decide), Str.length_append, piled_cons]
    have e1 : ("[" : Str).length = 1 := by decide
    have e2 : ("]" : Str).length = 1 := by decide
    omega
theorem len_tupleText (t u : Str) (r : List Str) : (PySem.tupleText (t :: u :: r)).length ≤ piled (t :: u :: r) := by
  have e : PySem.tupleText (t :: u :: r) = ("(" : Str) ++ Str.join ", " (t :: u :: r) ++ (")" : Str) := by
    unfold PySem.tupleText
    rw [if_neg (by simp)]
  rw [e, Str.length_append, Str.length_append]
  have e1 : ("(" : Str).length = 1 := by decide
  have e2 : (")" : Str).length = 1 := by decide
  have := join_length_add (t :: u :: r) (by simp)
  omega
theorem shown_int {i : Int} (h : i.natAbs < 10 ^ 9) : (PyData.int i).shown.length ≤ 10 := by
  have e : (PyData.int i).shown = Str.ofString (toString i) := by simp only [PyData.shown]
  rw [e, PySem.ofString_length]
  exact int_text_length_le10 (by decide) h
theorem show_int {i : Int} (h : i.natAbs < 10 ^ 9) : (PyData.int i).showable = true := by
  have hb : i.natAbs.log2 < 1920 := by
    have e : (10 : Nat) ^ 9 < 2 ^ 1900 := by decide +kernel
    exact Nat.lt_of_lt_of_le (PySem.Flt.log2_lt_of (by decide) (Nat.lt_trans h e)) (by decide)
  simpa [PyData.showable] using hb

/-- what repr wants of a value, and how long its text is at most -/
structure Sh (d : PyData) (n k : Nat) : Prop where
  s : d.showable = true
  h : d.hasDict = false
  e : d.depth ≤ k
  l : d.shown.length ≤ n
theorem Sh.int {i : Int} (h : i.natAbs < 10 ^ 9) : Sh (.int i) 10 0 := ⟨show_int h, by simp only [PyData.hasDict], by simp [PyData.depth], shown_int h⟩
theorem Sh.str1 (x : Str) (h : (PyData.str x).shown.length ≤ 10) : Sh (.str x) 10 0 := ⟨by simp only [PyData.showable], by simp only [PyData.hasDict], by simp [PyData.depth], h⟩
theorem Sh.mono {d : PyData} {n k m j : Nat} (h : Sh d n k) (a : n ≤ m) (b : k ≤ j) : Sh d m j := ⟨h.s, h.h, Nat.le_trans h.e b, Nat.le_trans h.l a⟩
theorem sh_all {n k : Nat} : ∀ ds : List PyData, (∀ d ∈ ds, Sh d n k) → PyData.showableAll ds = true ∧ PyData.hasDictAll ds = false ∧ PyData.depthAll ds ≤ k ∧ piled (PyData.shownAll ds) ≤ (n + 2) * ds.length
  | [], _ => ⟨by simp only [PyData.showableAll], by simp only [PyData.hasDictAll], by simp [PyData.depthAll], by simp only [PyData.shownAll]; exact Nat.zero_le _⟩
  | d :: ds, h => by
    obtain ⟨a, b, c, e⟩ := sh_all ds fun x hx => h x (List.mem_cons_of_mem _ hx)
    have q := h d List.mem_cons_self
    refine ⟨?_, ?_, ?_, ?_⟩
    · simp only [PyData.showableAll, q.s, a, Bool.and_self]
    · simp only [PyData.hasDictAll, q.h, b, Bool.or_self]
    · simp only [PyData.depthAll]
      have := q.e
      omega
    · simp only [PyData.shownAll]
      rw [piled_cons, List.length_cons, Nat.mul_succ]
      have := q.l
      omega
theorem Sh.list {n k : Nat} {ds : List PyData} (h : ∀ d ∈ ds, Sh d n k) : Sh (.list ds) ((n + 2) * ds.length + 2) (k + 1) := by
  obtain ⟨a, b, c, e⟩ := sh_all ds h
  refine ⟨by simp only [PyData.showable]; exact a, by simp only [PyData.hasDict]; exact b, by simp only [PyData.depth]; omega, ?_⟩
  simp only [PyData.shown]
  exact Nat.le_trans (len_listText _) (by omega)
theorem Sh.tup {n k : Nat} {x y : PyData} {ds : List PyData} (h : ∀ d ∈ x :: y :: ds, Sh d n k) : Sh (.tuple (x :: y :: ds)) ((n + 2) * (ds.length + 2)) (k + 1) := by
  obtain ⟨a, b, c, e⟩ := sh_all (x :: y :: ds) h
  refine ⟨by simp only [PyData.showable]; exact a, by simp only [PyData.hasDict]; exact b, by simp only [PyData.depth]; omega, ?_⟩
  simp only [PyData.shown, PyData.shownAll] at e ⊢
  exact Nat.le_trans (len_tupleText _ _ _) e
end Ev

/-! A method of an own class, called with keywords alone. -/
namespace Ev
open PySem PySem.Spec PyProof.Rows L2
def tMethK (C : Addr) (m : Str) (n : Nat) (sp : Sp) (gV : List V → List V → List V) (E : XK) (ta : TE) (tk : TA) : TE := fun σ H Q => ta σ H fun x H1 => ∃ (a dx : Addr) (fs : List (Str × V)), x = .ref a ∧ H1 a = some (.ins C dx fs) ∧ fs.lookup m = none ∧
  tk σ H1 fun zs H2 => zs.length = n ∧ sp (gV [.ref a] zs) H2 Q E
section
variable {X : Cx} {CX : CXT} {k : Nat} {C f : Addr} {fd : FuncData} {ps ks : List Str} {sp : Sp} {E : XK} {m : Str} {apos pos : Pos} {o : Expr} {kws : List Keyword} {ta : TE} {tk : TA} {g : List Value → List Value → List Value} {gV : List V → List V → List V}
theorem pe_methKw {pl : Sem Bool} (he : PE X o ta) (c : Cls X.K C) (hm : Meth X.K C m f) (G : FnOk X.prog X.w X.K X.mg X.base CX k f fd ps sp) (hr : Room k X.A) (kb : KBn X.K fd ps 1 ks g gV) (hx : Passes CX X E) (hkw : PK X kws tk)
    (ht : eval (.Call (.Attribute o m apos) [] kws pos) X.env = (do let ov ← eval o X.env; standAt apos.atName; let (f, first) ← holding [ov] (getMethod ov m pl); callWith pos f first (backTo pos (starEach [] X.env)) (backToKw pos (keywordEach kws X.env))) := by rfl)
    (hall : (backToKw pos (keywordEach kws X.env)).all (·.1.isSome) = true := by rfl) (hks : (backToKw pos (keywordEach kws X.env)).filterMap (·.1) = ks := by rfl)
    (hpl : ((backTo pos (starEach [] X.env)).any (·.1) || (backToKw pos (keywordEach kws X.env)).any (·.1.isNone)) = false := by rfl) :
    PE X (.Call (.Attribute o m apos) [] kws pos) (tMethK C m ks.length sp gV E ta tk) := ⟨fun pins s σ H Q I h => by
  refine PySem.W.methodCall_KW (pl := pl) (thn (he.run pins s σ H _ I h) fun u s1 got => ?_) ht
  obtain ⟨x, H1, I1, rx, a, dx, fs, rfl, ea, hl, q⟩ := got
  obtain rfl : u = Value.ref a := rx
  refine getmeth_ok I1 ea c hm hl ?_
  refine PySem.W.callWith_KW0 (first := [.ref a]) (h₀ := X.base) I.ok.mod.kin hm.kp hall ?_ hpl
  refine thn (hkw.run pos pins s1 σ H1 _ I1 q) fun ws s2 got2 => ?_
  obtain ⟨zs, H2, I2, rz, lz, hsp⟩ := got2
  refine ⟨I2.kIn, ?_⟩
  rw [hks]
  have r1 : Vals [V.ref a] [Value.ref a] := .cons rfl .nil
  show wpAny _ _ (call (.ref f) [.ref a] (ks.zip ws)) _ _ _
  refine wpAny_call (codeAny_mono (G.run X.A X.stack s2 H2 ⟨[.ref a], ks.zip ws⟩ (g [.ref a] ws) (gV [.ref a] zs) Q E hr I2.env0 (kb.to s2 [.ref a] ws I2.kIn rfl (rz.length.symm.trans lz)) (kb.rel r1 rz) hsp) fun r s' hq => ?_)
  rcases r with er | (_ | _ | _ | w)
  · exact hx pins σ H2 s2 er s' I2 hq
  · exact False.elim hq
  · exact False.elim hq
  · exact False.elim hq
  · exact I2.after hq⟩
end
end Ev

/-! A def called with keywords alone; defs that may raise, called where nothing is caught, and within a try. -/
namespace Ev
open PySem PySem.Spec PyProof.Rows L2
section
variable {X : Cx} {CX : CXT} {k : Nat} {f : Addr} {fd : FuncData} {ps ks : List Str} {sp : Sp} {E : XK} {x : Str} {p pos : Pos} {kws : List Keyword} {tk : TA} {g : List Value → List Value → List Value} {gV : List V → List V → List V}
def tCallK0 (m : Nat) (sp : Sp) (gV : List V → List V → List V) (E : XK) (tk : TA) : TE := fun σ H Q => tk σ H fun zs H2 => zs.length = m ∧ sp (gV [] zs) H2 Q E
theorem pe_callK0 (F : FnOk X.prog X.w X.K X.mg X.base CX k f fd ps sp) (hr : Room k X.A) (hg : Gl X x) (hm : X.mg x = some (.ref f)) (hk : PySem.W.keepIn X.K (.ref f) = true) (hb : KBn X.K fd ps 0 ks g gV) (hx : Passes CX X E) (hkw : PK X kws tk)
    (hall : (backToKw pos (keywordEach kws X.env)).all (·.1.isSome) = true := by rfl) (hks : (backToKw pos (keywordEach kws X.env)).filterMap (·.1) = ks := by rfl) (hdb : (x == ("__debug__" : Str)) = false := by decide)
    (hpl : ((backTo pos (starEach [] X.env)).any (·.1) || (backToKw pos (keywordEach kws X.env)).any (·.1.isNone)) = false := by rfl) :
    PE X (.Call (.Name x p) [] kws pos) (tCallK0 ks.length sp gV E tk) := by
  refine ⟨fun pins s σ H Q I h => ?_⟩
  refine wpAny_Call_Name_kw (ld_glob I hg hm ?_ hdb)
  refine PySem.W.callWith_KW0 (h₀ := X.base) I.ok.mod.kin hk hall ?_ hpl
  refine thn (hkw.run pos pins s σ H _ I h) fun ws s2 ⟨zs, H2, I2, rz, l2, q2⟩ => ⟨I2.kIn, ?_⟩
  rw [hks]
  exact run_fnN (us := []) (vs := []) F hr hb hx I2 .nil rz rfl l2 q2
/-- an own def of the module that may raise, as a constant -/
structure CalX (P : Program) (w : World) (K : PySem.W.Frag) (mg : Str → Option Value) (base : Heap) (k : Nat) (x : Str) (f : Addr) (fd : FuncData) (ps : List Str) (sp : Sp) : Prop where
  F : FnOk P w K mg base (L2.CX P w) k f fd ps sp
  m : mg x = some (.ref f)
  kp : PySem.W.keepIn K (.ref f) = true
  b : Binds K fd ps []
theorem pe_cX {j : Nat} {e : Expr} {es : List Expr} {t : TA} (c : CalX X.prog X.w X.K X.mg X.base k x f fd ps sp) (hr : Room j X.A) (hk : k ≤ j) (hx : Passes (L2.CX X.prog X.w) X E) (hg : Gl X x) (ha : PA X (e :: es) t)
    (hdb : (x == ("__debug__" : Str)) = false := by decide) (he : starEach (e :: es) X.env = (false, eval e X.env) :: starEach es X.env := by rfl) (hpl : (backTo pos (starEach es X.env)).any (·.1) = false := by rfl) :
    PE X (.Call (.Name x p) (e :: es) [] pos) (tCall sp [] E t) := pe_call c.F (hr.mono hk) hg c.m c.kp c.b .nil hx ha hdb he hpl
theorem pe_cXK {j : Nat} (c : CalX X.prog X.w X.K X.mg X.base k x f fd ps sp) (hr : Room j X.A) (hk : k ≤ j) (hx : Passes (L2.CX X.prog X.w) X E) (hg : Gl X x) (hb : KBn X.K fd ps 0 ks g gV) (hkw : PK X kws tk)
    (hall : (backToKw pos (keywordEach kws X.env)).all (·.1.isSome) = true := by rfl) (hks : (backToKw pos (keywordEach kws X.env)).filterMap (·.1) = ks := by rfl) (hdb : (x == ("__debug__" : Str)) = false := by decide)
    (hpl : ((backTo pos (starEach [] X.env)).any (·.1) || (backToKw pos (keywordEach kws X.env)).any (·.1.isNone)) = false := by rfl) :
    PE X (.Call (.Name x p) [] kws pos) (tCallK0 ks.length sp gV E tk) := pe_callK0 c.F (hr.mono hk) hg c.m c.kp hb hx hkw hall hks hdb hpl
end
section
variable {σ : L2.St} {H : Hp}
theorem rd_callK0 {m : Nat} {sp : Sp} {gV : List V → List V → List V} {E : XK} {tk : TA} {Q : VK} (h : tk σ H fun zs H2 => zs.length = m ∧ sp (gV [] zs) H2 Q E) : tCallK0 m sp gV E tk σ H Q := h
theorem rd_notN {x : V} {Q : V → Prop} (q : Q (.bl (!decide (x = .non)))) : V.non = .non ∧ Q (.bl (!decide (x = .non))) := ⟨rfl, q⟩
end
end Ev

/-! Bounds, their strictest shares, conflicts. -/
namespace Ev
abbrev R3 := Int × Int × Int
def lowStep (b : Int × Int) (r : R3) : Int × Int := if r.2.2 * b.2 < b.1 * r.1 then (r.2.2, r.1) else b
def highStep (b : Int × Int) (r : R3) : Int × Int := if r.2.1 * b.2 > b.1 * r.1 then (r.2.1, r.1) else b
def Wide1 (B : List R3) : Prop := ∀ r ∈ B, 1 ≤ r.1
theorem mul_chain {a b c d e f : Int} (hb : 0 < b) (hd : 0 ≤ d) (hf : 0 ≤ f) (h1 : a * b ≤ c * d) (h2 : c * f ≤ e * b) : a * f ≤ e * d := by
  have x1 := Int.mul_le_mul_of_nonneg_right h1 hf
  have x2 := Int.mul_le_mul_of_nonneg_right h2 hd
  have e1 : a * f * b ≤ e * d * b := by
    have q1 : a * f * b = a * b * f := by rw [Int.mul_assoc, Int.mul_comm f b, ← Int.mul_assoc]
    have q2 : e * d * b = e * b * d := by rw [Int.mul_assoc, Int.mul_comm d b, ← Int.mul_assoc]
    have q3 : c * d * f = c * f * d := by rw [Int.mul_assoc, Int.mul_comm d f, ← Int.mul_assoc]
    omega
  exact Int.le_of_mul_le_mul_right e1 hb
/-- (m, w) is the most and the width of one of these, and none is stricter -/
def IsLow (B : List R3) (b : Int × Int) : Prop := (∃ s ∈ B, b = (s.2.2, s.1)) ∧ ∀ s ∈ B, b.1 * s.1 ≤ s.2.2 * b.2
def IsHigh (B : List R3) (b : Int × Int) : Prop := (∃ s ∈ B, b = (s.2.1, s.1)) ∧ ∀ s ∈ B, s.2.1 * b.2 ≤ b.1 * s.1
theorem low_fold (A : List R3) : ∀ (done : List R3) (b : Int × Int), Wide1 (done ++ A) → IsLow done b → IsLow (done ++ A) (A.foldl lowStep b) := by
  induction A with
  | nil => intro done b _ h; rw [List.append_nil]; exact h
  | cons r A ih =>
    intro done b hw h
    have e : done ++ r :: A = (done ++ [r]) ++ A := by simp
    rw [List.foldl_cons, e]
    refine ih _ _ (by rw [← e]; exact hw) ?_
    obtain ⟨⟨s, hs, hb⟩, hall⟩ := h
    have rw1 : 1 ≤ r.1 := hw r (by simp)
    have sw1 : 1 ≤ s.1 := hw s (by simp [hs])
    unfold lowStep
    by_cases c : r.2.2 * b.2 < b.1 * r.1
    · rw [if_pos c]
      refine ⟨⟨r, by simp, rfl⟩, fun t ht => ?_⟩
      rcases List.mem_append.mp ht with ht | ht
      · have tw := hw t (by simp [ht])
        have := hall t ht
        have hb2 : 0 < b.2 := by rw [hb]; show 0 < s.1; omega
        exact mul_chain hb2 (by show (0 : Int) ≤ r.1; omega) (by omega) (Int.le_of_lt c) this
      · rw [List.mem_singleton.mp ht]; exact Int.le_refl _
    · rw [if_neg c]
      refine ⟨⟨s, by simp [hs], hb⟩, fun t ht => ?_⟩
      rcases List.mem_append.mp ht with ht | ht
      · exact hall t ht
      · rw [List.mem_singleton.mp ht]; omega
theorem high_fold (A : List R3) : ∀ (done : List R3) (b : Int × Int), Wide1 (done ++ A) → IsHigh done b → IsHigh (done ++ A) (A.foldl highStep b) := by
  induction A with
  | nil => intro done b _ h; rw [List.append_nil]; exact h
  | cons r A ih =>
    intro done b hw h
    have e : done ++ r :: A = (done ++ [r]) ++ A := by simp
    rw [List.foldl_cons, e]
    refine ih _ _ (by rw [← e]; exact hw) ?_
    obtain ⟨⟨s, hs, hb⟩, hall⟩ := h
    have rw1 : 1 ≤ r.1 := hw r (by simp)
    have sw1 : 1 ≤ s.1 := hw s (by simp [hs])
    unfold highStep
    by_cases c : r.2.1 * b.2 > b.1 * r.1
    · rw [if_pos c]
      refine ⟨⟨r, by simp, rfl⟩, fun t ht => ?_⟩
      rcases List.mem_append.mp ht with ht | ht
      · have tw := hw t (by simp [ht])
        have := hall t ht
        have hb2 : 0 < b.2 := by rw [hb]; show 0 < s.1; omega
        exact mul_chain hb2 (by omega) (by show (0 : Int) ≤ r.1; omega) this (Int.le_of_lt c)
      · rw [List.mem_singleton.mp ht]; exact Int.le_refl _
    · rw [if_neg c]
      refine ⟨⟨s, by simp [hs], hb⟩, fun t ht => ?_⟩
      rcases List.mem_append.mp ht with ht | ht
      · exact hall t ht
      · rw [List.mem_singleton.mp ht]; omega
/-- what lowest_most, highest_least hand out of bounds that begin with r -/
def lowM (r : R3) (B : List R3) : Int × Int := (r :: B).foldl lowStep (r.2.2, r.1)
def highM (r : R3) (B : List R3) : Int × Int := (r :: B).foldl highStep (r.2.1, r.1)
theorem lowM_eq (r : R3) (B : List R3) : lowM r B = B.foldl lowStep (r.2.2, r.1) := by
  unfold lowM
  rw [List.foldl_cons]
  unfold lowStep
  rw [if_neg (by exact Int.lt_irrefl _)]
theorem highM_eq (r : R3) (B : List R3) : highM r B = B.foldl highStep (r.2.1, r.1) := by
  unfold highM
  rw [List.foldl_cons]
  unfold highStep
  rw [if_neg (by exact Int.lt_irrefl _)]
theorem low_is (r : R3) (B : List R3) (hw : Wide1 (r :: B)) : IsLow (r :: B) (lowM r B) := by
  rw [lowM_eq]
  exact low_fold B [r] _ hw ⟨⟨r, by simp, rfl⟩, fun s hs => by rw [List.mem_singleton.mp hs]; exact Int.le_refl _⟩
theorem high_is (r : R3) (B : List R3) (hw : Wide1 (r :: B)) : IsHigh (r :: B) (highM r B) := by
  rw [highM_eq]
  exact high_fold B [r] _ hw ⟨⟨r, by simp, rfl⟩, fun s hs => by rw [List.mem_singleton.mp hs]; exact Int.le_refl _⟩
/-! conflicts -/
def NoConf (B : List R3) : Prop := ∀ r ∈ B, ∀ s ∈ B, r.2.1 * s.1 ≤ s.2.2 * r.1
def FirstConf (B : List R3) (i j : Nat) : Prop := ∃ r s, B[i]? = some r ∧ B[j]? = some s ∧ s.2.2 * r.1 < r.2.1 * s.1 ∧ (∀ (i' : Nat) r', i' < i → B[i']? = some r' → ∀ s' ∈ B, r'.2.1 * s'.1 ≤ s'.2.2 * r'.1) ∧
  ∀ (j' : Nat) s', j' < j → B[j']? = some s' → r.2.1 * s'.1 ≤ s'.2.2 * r.1
theorem FirstConf.eq {B : List R3} {i j i' j' : Nat} (h : FirstConf B i j) (g : FirstConf B i' j') : i = i' ∧ j = j' := by
  obtain ⟨r, s, h1, h2, h3, h4, h5⟩ := h
  obtain ⟨r', s', g1, g2, g3, g4, g5⟩ := g
  have ei : i = i' := by
    rcases Nat.lt_trichotomy i i' with z | z | z
    · have := g4 i r z h1 s (List.mem_of_getElem? h2); omega
    · exact z
    · have := h4 i' r' z g1 s' (List.mem_of_getElem? g2); omega
  subst ei
  rw [h1] at g1; cases g1
  refine ⟨rfl, ?_⟩
  rcases Nat.lt_trichotomy j j' with z | z | z
  · have := g5 j s z h2; omega
  · exact z
  · have := h5 j' s' z g2; omega
theorem FirstConf.not {B : List R3} {i j : Nat} (h : FirstConf B i j) : ¬ NoConf B := fun n => by
  obtain ⟨r, s, h1, h2, h3, _⟩ := h
  have := n r (List.mem_of_getElem? h1) s (List.mem_of_getElem? h2)
  omega
/-- a least that passes the strictest most passes all -/
theorem low_pass {B : List R3} {b : Int × Int} (hw : Wide1 B) (h : IsLow B b) {r : R3} (hr : 1 ≤ r.1) (c : r.2.1 * b.2 ≤ b.1 * r.1) : ∀ s ∈ B, r.2.1 * s.1 ≤ s.2.2 * r.1 := fun s hs => by
  obtain ⟨⟨t, ht, hb⟩, hall⟩ := h
  have tw := hw t ht
  have sw := hw s hs
  have hb2 : 0 < b.2 := by rw [hb]; show 0 < t.1; omega
  exact mul_chain hb2 (by omega) (by omega) c (hall s hs)
theorem low_stop {B : List R3} {b : Int × Int} (h : IsLow B b) {r : R3} (c : b.1 * r.1 < r.2.1 * b.2) : ∃ s ∈ B, s.2.2 * r.1 < r.2.1 * s.1 := by
  obtain ⟨⟨t, ht, hb⟩, hall⟩ := h
  refine ⟨t, ht, ?_⟩
  rw [hb] at c
  exact c
end Ev

/-! The strictest further rules. -/
namespace Ev
theorem high_pass {B : List R3} {b : Int × Int} (hw : Wide1 B) (h : IsHigh B b) {s : R3} (hs : 1 ≤ s.1) (c : b.1 * s.1 ≤ s.2.2 * b.2) : ∀ r ∈ B, r.2.1 * s.1 ≤ s.2.2 * r.1 := fun r hr => by
  obtain ⟨⟨t, ht, hb⟩, hall⟩ := h
  have tw := hw t ht
  have rw' := hw r hr
  have hb2 : 0 < b.2 := by rw [hb]; show 0 < t.1; omega
  exact mul_chain hb2 (by omega) (by omega) (hall r hr) c
theorem high_stop {B : List R3} {b : Int × Int} (h : IsHigh B b) {s : R3} (c : s.2.2 * b.2 < b.1 * s.1) : ∃ r ∈ B, s.2.2 * r.1 < r.2.1 * s.1 := by
  obtain ⟨⟨t, ht, hb⟩, hall⟩ := h
  refine ⟨t, ht, ?_⟩
  rw [hb] at c
  exact c
theorem noconf_add {B : List R3} {o : R3} (nc : NoConf B) (h1 : ∀ s ∈ B, o.2.1 * s.1 ≤ s.2.2 * o.1) (h2 : ∀ r ∈ B, r.2.1 * o.1 ≤ o.2.2 * r.1) (h3 : o.2.1 * o.1 ≤ o.2.2 * o.1) : NoConf (B ++ [o]) := fun r hr s hs => by
  rcases List.mem_append.mp hr with hr | hr <;> rcases List.mem_append.mp hs with hs | hs
  · exact nc r hr s hs
  · rw [List.mem_singleton.mp hs]; exact h2 r hr
  · rw [List.mem_singleton.mp hr]; exact h1 s hs
  · rw [List.mem_singleton.mp hr, List.mem_singleton.mp hs]; exact h3
theorem noconf_of_share {B : List R3} {o u : Int} (hu : 0 < u) (hw : Wide1 B) (h : ∀ r ∈ B, r.2.1 * u ≤ r.1 * o ∧ r.1 * o ≤ r.2.2 * u) : NoConf B := fun r hr s hs => by
  have a := (h r hr).1
  have b := (h s hs).2
  rw [Int.mul_comm] at b
  rw [Int.mul_comm r.1] at a
  exact mul_chain hu (by have := hw r hr; omega) (by have := hw s hs; omega) a b
structure Strict (lo hi n : Int) (rs : List R3) (d0 d1 : Int) : Prop where
  a1 : NoConf ((1, lo, hi) :: rs ++ [(n, d0, n * hi)])
  a2 : ∀ x, ¬ NoConf ((1, lo, hi) :: rs ++ [(n, d0 + 1, x)])
  a3 : NoConf ((1, lo, hi) :: rs ++ [(n, n * lo, d1)])
  a4 : ∀ x, ¬ NoConf ((1, lo, hi) :: rs ++ [(n, x, d1 - 1)])
  b1 : n * lo ≤ d0
  b2 : d0 ≤ n * hi
  b3 : n * lo ≤ d1
  b4 : d1 ≤ n * hi
theorem strict_is {lo hi n : Int} {rs : List R3} (hw : Wide1 ((1, lo, hi) :: rs)) (nc : NoConf ((1, lo, hi) :: rs)) (hn : 1 ≤ n) :
    Strict lo hi n rs (n * (lowM (1, lo, hi) rs).1 / (lowM (1, lo, hi) rs).2) (0 - (0 - n * (highM (1, lo, hi) rs).1) / (highM (1, lo, hi) rs).2) := by
  have isl := low_is (1, lo, hi) rs hw
  have ish := high_is (1, lo, hi) rs hw
  have p1 : 0 < (lowM (1, lo, hi) rs).2 := by
    obtain ⟨⟨z, hz, e⟩, _⟩ := isl
    rw [e]; have := hw z hz; show 0 < z.1; omega
  have p2 : 0 < (highM (1, lo, hi) rs).2 := by
    obtain ⟨⟨z, hz, e⟩, _⟩ := ish
    rw [e]; have := hw z hz; show 0 < z.1; omega
  generalize lowM (1, lo, hi) rs = lm at isl p1 ⊢
  generalize highM (1, lo, hi) rs = hm at ish p2 ⊢
  obtain ⟨m, w⟩ := lm
  obtain ⟨l, v⟩ := hm
  dsimp only at p1 p2 ⊢
  have f1 : n * m / w * w ≤ n * m := Int.ediv_mul_le _ (by omega)
  have f2 : n * m < (n * m / w + 1) * w := Int.lt_ediv_add_one_mul_self _ p1
  have g1 : (0 - n * l) / v * v ≤ 0 - n * l := Int.ediv_mul_le _ (by omega)
  have g2 : 0 - n * l < ((0 - n * l) / v + 1) * v := Int.lt_ediv_add_one_mul_self _ p2
  generalize n * m / w = d0 at f1 f2 ⊢
  generalize hd : (0 - n * l) / v = q at g1 g2 ⊢
  have e0 : (1, lo, hi) ∈ (1, lo, hi) :: rs := List.mem_cons_self
  -- the new least d0 passes all mosts
  have c1 : ∀ s ∈ (1, lo, hi) :: rs, d0 * s.1 ≤ s.2.2 * n := low_pass hw isl (r := (n, d0, n * hi)) hn (by show d0 * w ≤ m * n; rw [Int.mul_comm m n]; exact f1)
  have c2 : ∃ s ∈ (1, lo, hi) :: rs, s.2.2 * n < (d0 + 1) * s.1 := low_stop isl (r := (n, d0 + 1, 0)) (by show m * n < (d0 + 1) * w; rw [Int.mul_comm m n]; exact f2)
  have h1 : l * n ≤ (0 - q) * v := by rw [Int.sub_mul, Int.mul_comm l n]; omega
  have h2 : (0 - q - 1) * v < l * n := by
    rw [Int.add_mul] at g2
    rw [Int.sub_mul, Int.sub_mul, Int.mul_comm l n]; omega
  have c3 : ∀ r ∈ (1, lo, hi) :: rs, r.2.1 * n ≤ (0 - q) * r.1 := high_pass hw ish (s := (n, n * lo, 0 - q)) hn h1
  have c4 : ∃ r ∈ (1, lo, hi) :: rs, (0 - q - 1) * r.1 < r.2.1 * n := high_stop ish (s := (n, 0, 0 - q - 1)) h2
  have x1 := c1 _ e0
  have x3 := c3 _ e0
  dsimp only at x1 x3
  have lohi : lo ≤ hi := by have := nc _ e0 _ e0; dsimp only at this; omega
  have up : ∀ r ∈ (1, lo, hi) :: rs, r.2.1 * n ≤ n * hi * r.1 := fun r hr => by
    have := nc r hr _ e0
    dsimp only at this
    have := Int.mul_le_mul_of_nonneg_left this (show 0 ≤ n by omega)
    rw [Int.mul_one] at this
    rw [Int.mul_comm r.2.1 n, Int.mul_assoc]; exact this
  have dn : ∀ s ∈ (1, lo, hi) :: rs, n * lo * s.1 ≤ s.2.2 * n := fun s hs => by
    have := nc _ e0 s hs
    dsimp only at this
    have := Int.mul_le_mul_of_nonneg_left this (show 0 ≤ n by omega)
    rw [Int.mul_one] at this
    rw [Int.mul_comm s.2.2 n, Int.mul_assoc]; exact this
  have nlh : n * lo ≤ n * hi := Int.mul_le_mul_of_nonneg_left lohi (by omega)
  have y1 : n * lo ≤ d0 := by
    obtain ⟨s, hs, z⟩ := c2
    have sw := hw s hs
    have := dn s hs
    have : n * lo * s.1 < (d0 + 1) * s.1 := Int.lt_of_le_of_lt this z
    have := Int.lt_of_mul_lt_mul_right this (by omega)
    omega
  have y2 : d0 ≤ n * hi := by rw [Int.mul_comm n hi]; omega
  have y3 : n * lo ≤ 0 - q := by rw [Int.mul_comm n lo]; omega
  have y4 : 0 - q ≤ n * hi := by
    obtain ⟨r, hr, z⟩ := c4
    have rw' := hw r hr
    have := up r hr
    have : (0 - q - 1) * r.1 < n * hi * r.1 := Int.lt_of_lt_of_le z this
    have := Int.lt_of_mul_lt_mul_right this (by omega)
    omega
  refine ⟨noconf_add nc c1 up (Int.mul_le_mul_of_nonneg_right y2 (by show 0 ≤ n; omega)), fun x k => ?_, noconf_add nc dn c3 (Int.mul_le_mul_of_nonneg_right y3 (by show 0 ≤ n; omega)), fun x k => ?_, y1, y2, y3, y4⟩
  · obtain ⟨s, hs, z⟩ := c2
    have := k (n, d0 + 1, x) (by simp) s (List.mem_append_left _ hs)
    dsimp only at this
    omega
  · obtain ⟨r, hr, z⟩ := c4
    have := k r (List.mem_append_left _ hr) (n, x, 0 - q - 1) (by simp)
    dsimp only at this
    omega
end Ev

/-! Lists of days that keep bounds, and go on both ways. -/
namespace Ev
def winsum (xs : List Int) (s w : Nat) : Int := ((xs.drop s).take w).sum
/-- all bounds hold within a list -/
def LetP (B : List R3) (xs : List Int) : Prop := ∀ r ∈ B, ∀ s : Nat, s + r.1.toNat ≤ xs.length → r.2.1 ≤ winsum xs s r.1.toNat ∧ winsum xs s r.1.toNat ≤ r.2.2
theorem winsum_left {xs ys : List Int} {s w : Nat} (h : s + w ≤ xs.length) : winsum (xs ++ ys) s w = winsum xs s w := by
  unfold winsum
  rw [List.drop_append_of_le_length (by omega), List.take_append_of_le_length (by rw [List.length_drop]; omega)]
theorem winsum_drop {xs : List Int} {k s w : Nat} : winsum (xs.drop k) s w = winsum xs (k + s) w := by
  unfold winsum
  rw [List.drop_drop]
theorem LetP.step {B : List R3} {xs : List Int} {d : Int} {m : Nat} (hm : m ≤ xs.length) (hB : ∀ r ∈ B, r.1.toNat ≤ m + 1) (h : LetP B xs) (g : LetP B (xs.drop (xs.length - m) ++ [d])) : LetP B (xs ++ [d]) := fun r hr s hs => by
  rw [List.length_append, List.length_singleton] at hs
  have hw := hB r hr
  by_cases c : s + r.1.toNat ≤ xs.length
  · rw [winsum_left c]
    exact h r hr s c
  · have e : xs ++ [d] = (xs.take (xs.length - m)) ++ (xs.drop (xs.length - m) ++ [d]) := by rw [← List.append_assoc, List.take_append_drop]
    have l : (xs.take (xs.length - m)).length = xs.length - m := by rw [List.length_take]; omega
    have e2 : (xs ++ [d]).drop (xs.length - m) = xs.drop (xs.length - m) ++ [d] := by
      rw [List.drop_append_of_le_length (by omega)]
    have := g r hr (s - (xs.length - m)) (by rw [List.length_append, List.length_drop, List.length_singleton]; omega)
    rw [← e2, winsum_drop] at this
    have e3 : xs.length - m + (s - (xs.length - m)) = s := by omega
    rw [e3] at this
    exact this
theorem block_ge {xs : List Int} {w : Nat} {f : Int} (h : ∀ s, s + w ≤ xs.length → f ≤ winsum xs s w) : ∀ k : Nat, k * w ≤ xs.length → (k : Int) * f ≤ (xs.take (k * w)).sum
  | 0, _ => by simp
  | k + 1, hk => by
    have e : (k + 1) * w = k * w + w := Nat.succ_mul k w
    rw [e] at hk ⊢
    have a := block_ge h k (by omega)
    have b := h (k * w) hk
    rw [List.take_add, List.sum_append]
    unfold winsum at b
    have : ((k + 1 : Nat) : Int) * f = k * f + f := by rw [Int.natCast_add, Int.add_mul]; simp
    omega
theorem block_le {xs : List Int} {w : Nat} {f : Int} (h : ∀ s, s + w ≤ xs.length → winsum xs s w ≤ f) : ∀ k : Nat, k * w ≤ xs.length → (xs.take (k * w)).sum ≤ (k : Int) * f
  | 0, _ => by simp
  | k + 1, hk => by
    have e : (k + 1) * w = k * w + w := Nat.succ_mul k w
    rw [e] at hk ⊢
    have a := block_le h k (by omega)
    have b := h (k * w) hk
    rw [List.take_add, List.sum_append]
    unfold winsum at b
    have : ((k + 1 : Nat) : Int) * f = k * f + f := by rw [Int.natCast_add, Int.add_mul]; simp
    omega
/-- lists that go on: then there is no conflict -/
theorem noconf_of_walk {B : List R3} {F : List (List Int)} {m : Nat} (hw : Wide1 B) (hB : ∀ r ∈ B, r.1.toNat ≤ m + 1) (hl : ∀ x ∈ F, x.length = m) (hL : ∀ x ∈ F, LetP B x) (hg : ∀ x ∈ F, ∃ d : Int, x.drop 1 ++ [d] ∈ F ∧ LetP B (x ++ [d])) {x0 : List Int} (h0 : x0 ∈ F) (hm : 1 ≤ m) : NoConf B := by
  have rows : ∀ N : Nat, ∃ xs : List Int, xs.length = m + N ∧ LetP B xs ∧ xs.drop (xs.length - m) ∈ F := by
    intro N
    induction N with
    | zero => exact ⟨x0, by rw [hl x0 h0]; rfl, hL x0 h0, by rw [hl x0 h0, Nat.sub_self]; exact h0⟩
    | succ N ih =>
      obtain ⟨xs, e, l, f⟩ := ih
      obtain ⟨d, f', l'⟩ := hg _ f
      refine ⟨xs ++ [d], by rw [List.length_append, e, List.length_singleton]; omega, l.step (m := m) (by omega) hB l', ?_⟩
      rw [List.length_append, List.length_singleton]
      have e1 : xs.length + 1 - m = (xs.length - m) + 1 := by omega
      rw [e1, List.drop_append_of_le_length (by omega)]
      rw [List.drop_drop] at f'
      exact f'
  intro r hr s hs
  have rw1 := hw r hr
  have sw1 := hw s hs
  obtain ⟨xs, e, l, _⟩ := rows (r.1.toNat * s.1.toNat)
  have g1 := block_ge (xs := xs) (w := r.1.toNat) (f := r.2.1) (fun q hq => (l r hr q hq).1) s.1.toNat (by rw [Nat.mul_comm]; omega)
  have g2 := block_le (xs := xs) (w := s.1.toNat) (f := s.2.2) (fun q hq => (l s hs q hq).2) r.1.toNat (by omega)
  rw [Nat.mul_comm] at g1
  have t1 : (s.1.toNat : Int) = s.1 := Int.toNat_of_nonneg (by omega)
  have t2 : (r.1.toNat : Int) = r.1 := Int.toNat_of_nonneg (by omega)
  rw [t1] at g1
  rw [t2] at g2
  rw [Int.mul_comm r.2.1, Int.mul_comm s.2.2]
  omega
/-! the even row by a share M / W -/
def evP (M W : Int) (n : Int) : Int := n * M / W
def evD (M W : Int) (n : Int) : Int := evP M W (n + 1) - evP M W n
def evW (M W : Int) (k : Int) : Nat → List Int
  | 0 => []
  | n + 1 => evD M W k :: evW M W (k + 1) n
theorem evW_len {M W k : Int} : ∀ n : Nat, (evW M W k n).length = n := by
  intro n
  induction n generalizing k with
  | zero => rfl
  | succ n ih => rw [evW, List.length_cons, ih]
theorem evW_sum {M W k : Int} : ∀ n : Nat, (evW M W k n).sum = evP M W (k + n) - evP M W k := by
  intro n
  induction n generalizing k with
  | zero => simp [evW]
  | succ n ih =>
    rw [evW, List.sum_cons, ih]
    unfold evD
    have : k + 1 + (n : Int) = k + ((n + 1 : Nat) : Int) := by omega
    rw [this]
    omega
theorem evW_drop {M W k : Int} : ∀ (n s : Nat), s ≤ n → (evW M W k n).drop s = evW M W (k + s) (n - s) := by
  intro n
  induction n generalizing k with
  | zero => intro s hs; obtain rfl : s = 0 := by omega
            simp [evW]
  | succ n ih =>
    intro s hs
    cases s with
    | zero => simp
    | succ s =>
      rw [evW, List.drop_succ_cons, ih s (by omega)]
      have e1 : k + 1 + (s : Int) = k + ((s + 1 : Nat) : Int) := by omega
      have e2 : n + 1 - (s + 1) = n - s := by omega
      rw [e1, e2]
theorem evW_take {M W k : Int} : ∀ (n s : Nat), s ≤ n → (evW M W k n).take s = evW M W k s := by
  intro n
  induction n generalizing k with
  | zero => intro s hs; obtain rfl : s = 0 := by omega
            simp [evW]
  | succ n ih =>
    intro s hs
    cases s with
    | zero => simp [evW]
    | succ s => rw [evW, List.take_succ_cons, ih s (by omega), evW]
theorem evW_snoc {M W k : Int} : ∀ n : Nat, evW M W k n ++ [evD M W (k + n)] = evW M W k (n + 1) := by
  intro n
  induction n generalizing k with
  | zero => simp [evW]
  | succ n ih =>
    rw [evW, List.cons_append]
    have : k + ((n + 1 : Nat) : Int) = (k + 1) + n := by omega
    rw [this, ih]
    rfl
theorem evP_step {M W k f : Int} {w : Nat} (hW : 0 < W) (h : f * W ≤ M * w) : f ≤ evP M W (k + w) - evP M W k := by
  unfold evP
  have a : k * M / W * W ≤ k * M := Int.ediv_mul_le _ (by omega)
  have : (k * M / W + f) ≤ (k + w) * M / W := by
    refine Int.le_ediv_of_mul_le hW ?_
    rw [Int.add_mul, Int.add_mul, Int.mul_comm (w : Int) M]
    omega
  omega
theorem evP_stepU {M W k f : Int} {w : Nat} (hW : 0 < W) (h : M * w ≤ f * W) : evP M W (k + w) - evP M W k ≤ f := by
  unfold evP
  have a : k * M < (k * M / W + 1) * W := Int.lt_ediv_add_one_mul_self _ hW
  have : (k + w) * M / W < k * M / W + 1 + f := by
    refine Int.ediv_lt_of_lt_mul hW ?_
    rw [Int.add_mul, Int.add_mul _ f, Int.mul_comm (w : Int) M]
    omega
  omega
theorem evW_let {B : List R3} {M W k : Int} {n : Nat} (hw : Wide1 B) (hW : 0 < W) (h : ∀ r ∈ B, r.2.1 * W ≤ M * r.1 ∧ M * r.1 ≤ r.2.2 * W) : LetP B (evW M W k n) := fun r hr s hs => by
  have r1 := hw r hr
  rw [evW_len] at hs
  unfold winsum
  rw [evW_drop n s (by omega), evW_take _ _ (by omega), evW_sum]
  have t : (r.1.toNat : Int) = r.1 := Int.toNat_of_nonneg (by omega)
  obtain ⟨a, b⟩ := h r hr
  exact ⟨evP_step hW (by rw [t]; exact a), evP_stepU hW (by rw [t]; exact b)⟩
/-- a share that all bounds let through, where there is no conflict -/
theorem share_of {lo hi : Int} {rs : List R3} (hw : Wide1 ((1, lo, hi) :: rs)) (nc : NoConf ((1, lo, hi) :: rs)) : ∃ M W : Int, 0 < W ∧ ∀ r ∈ (1, lo, hi) :: rs, r.2.1 * W ≤ M * r.1 ∧ M * r.1 ≤ r.2.2 * W := by
  have isl := low_is (1, lo, hi) rs hw
  obtain ⟨⟨t, ht, e⟩, hall⟩ := isl
  refine ⟨_, _, ?_, fun r hr => ⟨?_, hall r hr⟩⟩
  · rw [e]; have := hw t ht; show 0 < t.1; omega
  · rw [e]; exact nc r hr t ht
/-- goes on both ways within F -/
def Goes (B : List R3) (F : List (List Int)) (x : List Int) : Prop := (∃ d : Int, x.drop 1 ++ [d] ∈ F ∧ LetP B (x ++ [d])) ∧ ∃ d : Int, d :: x.dropLast ∈ F ∧ LetP B (d :: x)
/-- all windows of a row by this share are in F -/
def Ev0 (M W : Int) (m : Nat) (F : List (List Int)) : Prop := ∀ k : Int, evW M W k m ∈ F
theorem Ev0.goes {B : List R3} {M W : Int} {m : Nat} {F : List (List Int)} (hw : Wide1 B) (hW : 0 < W) (h : ∀ r ∈ B, r.2.1 * W ≤ M * r.1 ∧ M * r.1 ≤ r.2.2 * W) (hm : 1 ≤ m) (g : Ev0 M W m F) (k : Int) : Goes B F (evW M W k m) := by
  obtain ⟨n, rfl⟩ : ∃ n, m = n + 1 := ⟨m - 1, by omega⟩
  refine ⟨⟨evD M W (k + 1 + n), ?_, ?_⟩, evD M W (k - 1), ?_, ?_⟩
  · rw [evW, List.drop_succ_cons, List.drop_zero, evW_snoc]
    exact g (k + 1)
  · have : k + 1 + (n : Int) = k + ((n + 1 : Nat) : Int) := by omega
    rw [this, evW_snoc]
    exact evW_let hw hW h
  · have e : (evW M W k (n + 1)).dropLast = evW M W k n := by rw [← evW_snoc, List.dropLast_concat]
    rw [e]
    have := g (k - 1)
    rw [evW] at this
    have e2 : k - 1 + 1 = k := by omega
    rw [e2] at this
    exact this
  · have : evD M W (k - 1) :: evW M W k (n + 1) = evW M W (k - 1) (n + 2) := by
      show _ = evD M W (k - 1) :: evW M W (k - 1 + 1) (n + 1)
      have e2 : k - 1 + 1 = k := by omega
      rw [e2]
    rw [this]
    exact evW_let hw hW h
theorem goes_day {B : List R3} {lo hi d : Int} {x : List Int} (hB : (1, lo, hi) ∈ B) (h : LetP B (x ++ [d])) : lo ≤ d ∧ d ≤ hi := by
  have := h _ hB x.length (by rw [List.length_append]; exact Nat.le_refl _)
  unfold winsum at this
  rw [List.drop_left] at this
  simpa using this
theorem goes_day' {B : List R3} {lo hi d : Int} {x : List Int} (hB : (1, lo, hi) ∈ B) (h : LetP B (d :: x)) : lo ≤ d ∧ d ≤ hi := by
  have := h _ hB 0 (by rw [List.length_cons]; show 0 + 1 ≤ x.length + 1; omega)
  unfold winsum at this
  simpa using this
end Ev

namespace Ev
open PySem PySem.Spec PyProof.Rows L2
local macro_rules | `(tactic| wtm_at "ev_ne") => `(tactic| first | assumption | exact Ne.symm (by assumption))
local macro_rules | `(tactic| wtm_at "ev_lk") => `(tactic| first | assumption | exact upd_same | (refine lk_new' (by assumption) ?_; wtm_at "ev_lk") | (refine lk_ne (by wtm_at "ev_ne") ?_; wtm_at "ev_lk") | (refine same_lk (by assumption) ?_; wtm_at "ev_lk"))
local macro_rules | `(tactic| wtm_at "ev_sm") => `(tactic| first | assumption | exact Same.refl _ | (refine same_new ?_ (by assumption); wtm_at "ev_sm") | (refine Same.trans ?_ (by assumption); wtm_at "ev_sm"))
local macro_rules | `(tactic| wtm_at "ev_no") => `(tactic| first | assumption | exact no_back (by assumption) | (refine no_new ?_ (by wtm_at "ev_ne"); wtm_at "ev_no"))
local macro_rules | `(tactic| wtm_at "ev_sq") => `(tactic| first | assumption | exact SqL.of (by wtm_at "ev_lk") | exact SqT.of (by wtm_at "ev_lk"))
local macro_rules | `(tactic| wtm_at "ev_step") => `(tactic| with_reducible first
  | refine rd_seq ?_ | refine rd_next ?_ | refine rd_ret ?_ | refine rd_retN ?_ | refine rd_if ?_ | refine rd_drop ?_ | refine rd_asg ?_ | refine rd_name ?_ | refine rd_gsub ?_ | refine rd_gnil ?_ | refine rd_gcons ?_
  | refine rd_c ?_ | refine rd_op ?_ | refine rd_un ?_ | refine rd_rI0 ?_ | refine rd_rU ?_ | refine rd_tup ?_ | refine rd_lst ?_ | refine rd_nil ?_ | refine rd_cons ?_ | refine rd_cb ?_ | refine rd_call ?_ | refine rd_sl ?_ | refine rd_no ?_ | refine rd_part ?_
  | refine rd_test ?_ | refine rd_tB ?_ | refine rd_not ?_ | refine rd_and ?_ | refine rd_or ?_ | refine rd_notV ?_ | refine rd_andV ?_ | refine rd_orV ?_ | refine rd_ifE ?_ | refine rd_bl ?_ | refine rd_ex ?_
  | refine rd_rng1 ?_ | refine rd_overL ?_ | refine rd_overT ?_ | refine rd_forA ?_ | refine rd_forB ?_ | refine rd_forC ?_ | refine rd_lcA ?_ | refine rd_lcB ?_ | refine rd_lcC ?_ | refine rd_bm ?_ | refine rd_mkv ?_ | refine rd_xv ?_
  | refine rd_T ?_ | refine rd_F ?_ | refine rd_True ?_ | refine rd_False ?_ | refine rd_int ?_ | refine rd_intB ?_ | refine rd_one ?_ | refine rd_two ?_)
local macro_rules | `(tactic| wtm_at "ev_cond") => `(tactic| first | assumption | exact (show (0 : Int) < _ by decide) | exact (show (0 : Int) < _ by omega) | exact Or.inl ⟨by decide, by decide⟩ | exact Or.inr ⟨by decide, by decide⟩ | exact pow_cond (by decide) (by decide) (by first | decide | omega) (by first | decide | omega) | exact wide_div (b := 2000) (by first | assumption | decide | omega) (by first | decide | omega) (by decide) (by decide))
local macro_rules | `(tactic| wtm_at "ev_side") => `(tactic| first
  | ((with_reducible apply rd_var); exact rfl)
  | ((with_reducible apply rd_ixL); (wtm_at "ev_sq"); exact rfl)
  | ((with_reducible apply rd_ixT); (wtm_at "ev_sq"); exact rfl)
  | ((with_reducible apply rd_eq); exact rfl)
  | ((with_reducible apply rd_ne); exact rfl)
  | ((with_reducible apply rd_setL); (wtm_at "ev_lk"); exact rfl)
  | ((with_reducible apply rd_gtup); (wtm_at "ev_sq"); exact rfl)
  | ((with_reducible apply rd_len); (wtm_at "ev_sq"))
  | ((with_reducible apply rd_lenT); (wtm_at "ev_sq"))
  | ((with_reducible apply rd_rg); (first | decide | omega); (first | decide | omega))
  | ((with_reducible apply rd_atL); (wtm_at "ev_sq"))
  | ((with_reducible apply rd_atT); (wtm_at "ev_sq"))
  | ((with_reducible apply rd_tyL); (wtm_at "ev_sq"))
  | ((with_reducible apply rd_cat); (wtm_at "ev_lk"); (wtm_at "ev_lk"); exact Nat.le_of_ble_eq_true rfl)
  | ((with_reducible apply rd_size); exact Nat.le_of_ble_eq_true rfl)
  | ((with_reducible apply rd_rI); wtm_at "ev_cond"))
local macro_rules | `(tactic| wtm_at "ev_rd") => `(tactic| repeat (first | wtm_at "ev_step" | wtm_at "ev_side"))
local macro_rules | `(tactic| wtm_at "ev_go") => `(tactic| ((try simp only [L2.start, List.map_cons, List.map_nil, List.length_cons, List.length_nil, Nat.reduceAdd, Nat.reduceSub, List.replicate_succ, List.replicate_zero, List.cons_append, List.nil_append]); wtm_at "ev_rd"; (try simp only [List.set_cons_zero, List.set_cons_succ, upd_upd])))
def top (i : Nat) : Stmt := PySem.Challenge.pw_everyspan_k05_books_without_rows.main.body.getD i (.Pass ⟨0, 0, 0, 0⟩)
abbrev s_is_rule : Stmt := top 2
theorem sc_is_rule : FnScope ["rule", "width", "least", "most"] ["rule"] (defScope s_is_rule) := ⟨rfl, rfl, rfl, by decide +kernel, rfl, by decide +kernel, by decide +kernel⟩
abbrev s_lowest_most : Stmt := top 3
theorem sc_lowest_most : FnScope ["bounds", "best_width", "_", "best_most", "width", "most"] ["bounds"] (defScope s_lowest_most) := ⟨rfl, rfl, rfl, by decide +kernel, rfl, by decide +kernel, by decide +kernel⟩
abbrev s_first_conflict : Stmt := top 4
theorem sc_first_conflict : FnScope ["bounds", "lowest", "lowest_width", "i", "width", "least", "_"] ["bounds"] (defScope s_first_conflict) := ⟨rfl, rfl, rfl, by decide +kernel, rfl, by decide +kernel, by decide +kernel⟩
abbrev s_first_exceeded : Stmt := top 5
theorem sc_first_exceeded : FnScope ["bounds", "width", "least", "j", "other_width", "_", "most"] ["bounds", "width", "least"] (defScope s_first_exceeded) := ⟨rfl, rfl, rfl, by decide +kernel, rfl, by decide +kernel, by decide +kernel⟩
abbrev s_SpanError_init : Stmt := inClass (top 7) 0
theorem sc_SpanError_init : FnScope ["self", "value"] ["self", "value"] (defScope s_SpanError_init) := ⟨rfl, rfl, rfl, by decide +kernel, rfl, by decide +kernel, by decide +kernel⟩
abbrev s_Book_init : Stmt := inClass (top 11) 0
theorem sc_Book_init : FnScope ["self", "low", "high", "rules", "number", "rule"] ["self", "low", "high", "rules"] (defScope s_Book_init) := ⟨rfl, rfl, rfl, by decide +kernel, rfl, by decide +kernel, by decide +kernel⟩
abbrev s_Book_bounds : Stmt := inClass (top 11) 5
theorem sc_Book_bounds : FnScope ["self"] ["self"] (defScope s_Book_bounds) := ⟨rfl, rfl, rfl, by decide +kernel, rfl, by decide +kernel, by decide +kernel⟩
abbrev s_Book_has_rows : Stmt := inClass (top 11) 8
theorem sc_Book_has_rows : FnScope ["self"] ["self"] (defScope s_Book_has_rows) := ⟨rfl, rfl, rfl, by decide +kernel, rfl, by decide +kernel, by decide +kernel⟩
abbrev s_Book_conflict : Stmt := inClass (top 11) 9
theorem sc_Book_conflict : FnScope ["self"] ["self"] (defScope s_Book_conflict) := ⟨rfl, rfl, rfl, by decide +kernel, rfl, by decide +kernel, by decide +kernel⟩
abbrev s_pool : Stmt := top 13
theorem sc_pool : FnScope ["script", "spot", "cell"] ["script", "spot"] (defScope s_pool) := ⟨rfl, rfl, rfl, by decide +kernel, rfl, by decide +kernel, by decide +kernel⟩
abbrev s_draw : Stmt := top 14
theorem sc_draw : FnScope ["pool", "many", "drawn", "mixed"] ["pool", "many"] (defScope s_draw) := ⟨rfl, rfl, rfl, by decide +kernel, rfl, by decide +kernel, by decide +kernel⟩
abbrev s_made : Stmt := top 15
theorem sc_made : FnScope ["kind"] ["kind"] (defScope s_made) := ⟨rfl, rfl, rfl, by decide +kernel, rfl, by decide +kernel, by decide +kernel⟩
abbrev s_bounds : Stmt := top 16
theorem sc_bounds : FnScope ["kind"] ["kind"] (defScope s_bounds) := ⟨rfl, rfl, rfl, by decide +kernel, rfl, by decide +kernel, by decide +kernel⟩
abbrev s_is_let : Stmt := top 17
theorem sc_is_let : FnScope ["kind", "line", "size", "few", "more", "spot"] ["kind", "line"] (defScope s_is_let) := ⟨rfl, rfl, rfl, by decide +kernel, rfl, by decide +kernel, by decide +kernel⟩
abbrev s_states : Stmt := top 18
theorem sc_states : FnScope ["kind", "many", "found", "turn", "longer", "line", "size", "one", "bound"] ["kind"] (defScope s_states) := ⟨rfl, rfl, rfl, by decide +kernel, rfl, by decide +kernel, by decide +kernel⟩
abbrev s_goes_on : Stmt := top 19
theorem sc_goes_on : FnScope ["kind", "line", "found", "ahead", "behind", "one"] ["kind", "line", "found"] (defScope s_goes_on) := ⟨rfl, rfl, rfl, by decide +kernel, rfl, by decide +kernel, by decide +kernel⟩
abbrev s_any : Stmt := top 20
theorem sc_any : FnScope ["pool", "wide", "far", "bottom_day", "lines", "top_day", "turn", "size", "few"] ["pool", "wide", "far"] (defScope s_any) := ⟨rfl, rfl, rfl, by decide +kernel, rfl, by decide +kernel, by decide +kernel⟩
abbrev s_due : Stmt := top 21
theorem sc_due : FnScope ["kind", "bounds", "spot", "one", "at", "two"] ["kind"] (defScope s_due) := ⟨rfl, rfl, rfl, by decide +kernel, rfl, by decide +kernel, by decide +kernel⟩
abbrev s_right : Stmt := top 22
theorem sc_right : FnScope ["pool", "kind", "small", "some", "made", "due"] ["pool"] (defScope s_right) := ⟨rfl, rfl, rfl, by decide +kernel, rfl, by decide +kernel, by decide +kernel⟩
abbrev s_law : Stmt := top 23
theorem sc_law : FnScope ["script", "spot", "pool", "turn"] ["script"] (defScope s_law) := ⟨rfl, rfl, rfl, by decide +kernel, rfl, by decide +kernel, by decide +kernel⟩
/-- names of the text that the module does not shadow -/
structure Blt (mg : Str → Option Value) : Prop where
  n_int : mg "int" = none
  n_max : mg "max" = none
  n_min : mg "min" = none
  n_abs : mg "abs" = none
  n_len : mg "len" = none
  n_repr : mg "repr" = none
  n_isinstance : mg "isinstance" = none
  n_range : mg "range" = none
  n_str : mg "str" = none
  n_list : mg "list" = none
  n_enumerate : mg "enumerate" = none
  n_sum : mg "sum" = none
  n_ValueError : mg "ValueError" = none
/-- a number of a bounded size -/
def Num (i : Int) : Prop := i.natAbs < 2 ^ 1000
theorem Num.mul {i j : Int} (a : Num i) (b : Num j) : CMulW i j := wide_mul a b (by decide) (by decide) (by decide)
/-- a rule, and a list of rules -/
def Rl (H : Hp) (v : V) : Prop := ∃ (a : Addr) (w l m : Int), v = .ref a ∧ H a = some (.tup [.int w, .int l, .int m]) ∧ Num w ∧ Num l ∧ Num m
def Rls (H : Hp) (L : List V) : Prop := ∀ x ∈ L, Rl H x
theorem Rl.mono {H H' : Hp} {v : V} (h : Rl H v) (s : Same H H') : Rl H' v := by
  obtain ⟨a, w, l, m, rfl, e, b⟩ := h
  exact ⟨a, w, l, m, rfl, s _ _ e, b⟩
theorem Rls.mono {H H' : Hp} {L : List V} (h : Rls H L) (s : Same H H') : Rls H' L := fun x hx => (h x hx).mono s
theorem sqL_same {K : PySem.W.Frag} {H H' : Hp} {a : Addr} {xs : List V} (h : SqL K H a xs) (e : Same H H') : SqL K H' a xs :=
  h.elim (fun h => .inl (h.elim (fun h => .inl (e _ _ h)) fun ⟨o, h⟩ => .inr ⟨o, e _ _ h⟩)) fun h => .inr h
theorem rd_par {i j : Nat} {ta : TA} {D : Ends} {σ : L2.St} {H : Hp} (h : ta σ H fun vs H1 => ∃ v w, vs = [v, w] ∧ D.nx ((σ.set i (some v)).set j (some w)) H1) : tPar i j ta D σ H := h
theorem rd_par2 {v w : V} {A : V → V → Prop} (q : A v w) : ∃ x y, [v, w] = [x, y] ∧ A x y := ⟨v, w, rfl, q⟩
local macro_rules | `(tactic| wtm_at "ev_step") => `(tactic| with_reducible first | refine rd_par ?_ | refine rd_par2 ?_ | refine rd_forD ?_)
local macro_rules | `(tactic| wtm_at "ev_side") => `(tactic| ((with_reducible apply rd_enumL); (wtm_at "ev_sq")))
local macro_rules | `(tactic| wtm_at "ev_cond") => `(tactic| exact Num.mul (by assumption) (by assumption))
section
variable {P : Program} {w : World} {K : PySem.W.Frag} {mg : Str → Option Value} {base : Heap}
end
def PoolL (L : List V) (n : Int) : Prop := ∃ z m c : Int, L = [.int z, .int m, .int c] ∧ 0 ≤ m ∧ m < 4611686018427387904 ∧ 0 ≤ c ∧ c ≤ n
theorem PoolL.le {L : List V} {n m : Int} (h : PoolL L n) (e : n ≤ m) : PoolL L m := by
  obtain ⟨z, a, c, rfl, h1, h2, h3, h4⟩ := h
  exact ⟨z, a, c, rfl, h1, h2, h3, Int.le_trans h4 e⟩
def spDraw : Sp := fun vs H Q _ => ∃ (p : Addr) (L : List V) (n m : Int), vs = [.ref p, .int m] ∧ H p = some (.lst L) ∧ PoolL L n ∧ n ≤ 1000000000 ∧ 0 < m ∧ m < 2 ^ 2000 ∧ ∀ (d : Int) (L' : List V), 0 ≤ d → d < m → PoolL L' (n + 1) → Q (.int d) (upd H p (.lst L'))
theorem rd_draw {H : Hp} {Q : VK} {E : XK} {p : Addr} {L : List V} {n m : Int} (hp : H p = some (.lst L)) (hL : PoolL L n) (hn : n ≤ 1000000000) (h0 : 0 < m) (hm : m < 2 ^ 2000)
    (q : ∀ (d : Int) (L' : List V), 0 ≤ d → d < m → PoolL L' (n + 1) → Q (.int d) (upd H p (.lst L'))) : spDraw ([.ref p, .int m] ++ []) H Q E := ⟨p, L, n, m, rfl, hp, hL, hn, h0, hm, q⟩
section
variable {P : Program} {w : World} {K : PySem.W.Frag} {mg : Str → Option Value} {base : Heap} {fI c0 c1 c2 c3 c4 c5 c6 c7 c8 c9 c10 c11 : Addr}
set_option maxHeartbeats 1000000 in
theorem ok_draw {f : Addr} {fd : FuncData} (F : Fun K "_law_draw" "_law_draw" s_draw f fd) (T : Blt mg) : FnOk P w K mg base CX0 1 f fd ["pool", "many"] spDraw := by
  refine F.ok sc_draw (fun vs H Q E h => ?_) (fun cdv A outer s H vs Q E hr h => ?_)
  · obtain ⟨p, L, n, m, rfl, _⟩ := h
    rfl
  · obtain ⟨p, L, n, m, rfl, hp, ⟨z, y, c, rfl, hy0, hy1, hc0, hc1⟩, hn, hm, hm2, k⟩ := h
    refine ⟨_, (pss_cons (ps_if (pt_cmpR op_gt (pe_ix ix_list (pv 0) pe_int (fun _ _ => rfl)) pe_int (nomark _)) 
        (pss_cons (ps_set (i := 2) sc_draw.nd rfl (Or.inl rfl) (pe_op op_mod (pe_callTy call_int1 (by rfl) T.n_int boot_int (pa_cons (pe_ix ix_list (pv 0) pe_int (fun _ _ => rfl)) pa_nil)) (pv 1)))
        (pss_cons (ps_asg (pe_op op_fdivW (pe_ix ix_list (pv 0) pe_int (fun _ _ => rfl)) (pv 1)) (pg_sub (pv 0) pe_int set_list))
        (pss_one (ps_ret (pv 2))))) pss_nil)
      (pss_cons (ps_asg (pe_op op_add (pe_ix ix_list (pv 0) pe_int (fun _ _ => rfl)) pe_int) (pg_sub (pv 0) pe_int set_list))
      (pss_cons (ps_set (i := 3) sc_draw.nd rfl (Or.inl rfl) (pe_op op_mod (pe_callTy call_int1 (by rfl) T.n_int boot_int (pa_cons (pe_op op_powW (pe_op op_add (pe_ix ix_list (pv 0) pe_int (fun _ _ => rfl)) (pe_op op_mul pe_int (pe_ix ix_list (pv 0) pe_int (fun _ _ => rfl)))) pe_int) pa_nil)) pe_int))
      (pss_cons (ps_set (i := 3) sc_draw.nd rfl (Or.inl rfl) (pe_op op_mod (pe_callTy call_int1 (by rfl) T.n_int boot_int (pa_cons (pe_op op_powW (pe_op op_add (pv 3) (pe_op op_mul pe_int (pe_ix ix_list (pv 0) pe_int (fun _ _ => rfl)))) pe_int) pa_nil)) pe_int))
      (pss_one (ps_ret (pe_op op_mod (pe_callTy call_int1 (by rfl) T.n_int boot_int (pa_cons (pe_op op_fdivW (pv 3) pe_int) pa_nil)) (pv 1)))))))), ?_⟩
    wtm_at "ev_go"
    refine rd_ite (fun hz => ?_) (fun hz => ?_)
    · wtm_at "ev_go"
      exact k _ _ (Int.emod_nonneg _ (by omega)) (Int.emod_lt_of_pos _ hm) ⟨_, _, _, rfl, hy0, hy1, hc0, by omega⟩
    · wtm_at "ev_go"
      exact k _ _ (Int.emod_nonneg _ (by omega)) (Int.emod_lt_of_pos _ hm) ⟨_, _, _, rfl, hy0, hy1, by omega, by omega⟩
def spPool (K : PySem.W.Frag) : Sp := fun vs H Q _ => ∃ (a : Addr) (ns : List Int) (i : Int), vs = [.ref a, .int i] ∧ SqL K H a (ns.map V.int) ∧ 0 ≤ i ∧ i ≤ 100 ∧ ∀ (p : Addr) (L : List V), H p = none → PoolL L 0 → Q (.ref p) (upd H p (.lst L))
set_option maxHeartbeats 1000000 in
theorem ok_pool {f : Addr} {fd : FuncData} (F : Fun K "_law_pool" "_law_pool" s_pool f fd) (T : Blt mg) : FnOk P w K mg base CX0 1 f fd ["script", "spot"] (spPool K) := by
  refine F.ok sc_pool (fun vs H Q E h => ?_) (fun cdv A outer s H vs Q E hr h => ?_)
  · obtain ⟨a, ns, i, rfl, _⟩ := h
    rfl
  · obtain ⟨a, ns, i, rfl, hS, hi0, hi1, k⟩ := h
    have fin : ∀ (x c : Int) (p : Addr), H p = none → Q (.ref p) (upd H p (.lst [.int x, .int (c % 2305843009213693951 + 7368787 * (i + 1)), .int 0])) := fun x c p hp =>
      k p _ hp ⟨_, _, _, rfl, by have := Int.emod_nonneg c (by decide : (2305843009213693951 : Int) ≠ 0); omega, by have := Int.emod_lt_of_pos c (by decide : (0 : Int) < 2305843009213693951); omega, by decide, by decide⟩
    refine ⟨_, (pss_cons (ps_set (i := 2) sc_pool.nd rfl (Or.inl rfl) pe_int)
      (pss_cons (ps_if (pt_cmpR op_lt (pv 1) (pe_callB call_len_seq (by rfl) T.n_len PySem.boot_len (pa_cons (pv 0) pa_nil)) (nomark _)) 
        (pss_one (ps_set (i := 2) sc_pool.nd rfl (Or.inl rfl) (pe_ix ix_list (pv 0) (pv 1) (fun _ _ => rfl)))) pss_nil)
      (pss_one (ps_ret (pe_lst (pa_cons (pe_callB (call_max2 rfl) (by rfl) T.n_max boot_max (pa_cons pe_int (pa_cons (pe_op op_sub (pe_callB call_abs (by rfl) T.n_abs boot_abs (pa_cons (pv 2) pa_nil)) (pe_op op_powW pe_int pe_int)) pa_nil))) (pa_cons (pe_op op_add (pe_op op_mod (pe_callTy call_int1 (by rfl) T.n_int boot_int (pa_cons (pv 2) pa_nil)) pe_int) (pe_op op_mul pe_int (pe_op op_add (pv 1) pe_int))) (pa_cons pe_int pa_nil)))))))), ?_⟩
    wtm_at "ev_go"
    rw [List.length_map]
    refine rd_ite (fun hl => ?_) (fun hl => ?_)
    · obtain ⟨z, hz⟩ := at_int hi0 hl
      wtm_at "ev_go"
      refine rd_ixL hS hz ?_
      wtm_at "ev_go"
      exact fun p hp => fin _ _ p hp
    · wtm_at "ev_go"
      exact fun p hp => fin _ _ p hp
end
def Fr (p : Addr) (H H' : Hp) : Prop := ∀ b o, H b = some o → b ≠ p → H' b = some o
theorem Fr.trans {p : Addr} {H H1 H2 : Hp} (h : Fr p H H1) (g : Fr p H1 H2) : Fr p H H2 := fun b o z n => g b o (h b o z n) n
theorem Fr.same {p : Addr} {H H1 H2 : Hp} (h : Fr p H H1) (g : Same H1 H2) : Fr p H H2 := fun b o z n => g b o (h b o z n)
theorem Fr.put {p : Addr} {H H1 : Hp} {x : HO} (h : Fr p H H1) : Fr p H (upd H1 p x) := fun b o z n => lk_ne n (h b o z n)
theorem Fr.of {p : Addr} {H H1 : Hp} (h : Same H H1) : Fr p H H1 := fun b o z _ => h b o z
/-- a list of rules with these numbers -/
def RlR (H : Hp) (L : List V) (rs : List (Int × Int × Int)) : Prop := L.length = rs.length ∧ ∀ (i : Nat) (v : V), L[i]? = some v → ∃ (a : Addr) (r : Int × Int × Int), v = .ref a ∧ rs[i]? = some r ∧ H a = some (.tup [.int r.1, .int r.2.1, .int r.2.2]) ∧ Num r.1 ∧ Num r.2.1 ∧ Num r.2.2
theorem RlR.mono {H H' : Hp} {L : List V} {rs : List (Int × Int × Int)} (h : RlR H L rs) (s : Same H H') : RlR H' L rs := ⟨h.1, fun i v e => by obtain ⟨a, r, h1, h2, h3, h4⟩ := h.2 i v e; exact ⟨a, r, h1, h2, s _ _ h3, h4⟩⟩
theorem RlR.rls {H : Hp} {L : List V} {rs : List (Int × Int × Int)} (h : RlR H L rs) : Rls H L := fun x hx => by
  obtain ⟨i, hi⟩ := List.getElem?_of_mem hx
  obtain ⟨a, r, h1, h2, h3, h4, h5, h6⟩ := h.2 i x hi
  exact ⟨a, r.1, r.2.1, r.2.2, h1, h3, h4, h5, h6⟩
def okR (r : Int × Int × Int) : Bool := decide (1 ≤ r.1) && decide (r.2.1 ≤ r.2.2)
theorem at_intM {ns : List Int} {i : Int} (h0 : 0 ≤ i) (h : i < (ns.length : Int)) : ∃ z, z ∈ ns ∧ atI (ns.map V.int) i = some (.int z) := by
  obtain ⟨k, rfl⟩ : ∃ k : Nat, i = (k : Int) := ⟨i.toNat, by omega⟩
  have hk : k < ns.length := by omega
  exact ⟨ns[k], List.getElem_mem hk, atI_nat (by rw [List.getElem?_map, List.getElem?_eq_getElem hk]; rfl)⟩
def lineD (r : Int × Int × Int) : PyData := .tuple [.int r.1, .int r.2.1, .int r.2.2]
theorem RlR.all {K : PySem.W.Frag} {H : Hp} : ∀ {L : List V} {rs : List (Int × Int × Int)}, RlR H L rs → DpAll K H L (rs.map lineD)
  | [], [], _ => .nil
  | [], _ :: _, h => by cases h.1
  | _ :: _, [], h => by cases h.1
  | v :: L, r :: rs, h => by
    obtain ⟨a, r', rfl, e, ha, _⟩ := h.2 0 v rfl
    cases e
    refine .cons (.tup (SqT.of ha) (.cons (.int _) (.cons (.int _) (.cons (.int _) .nil)))) (RlR.all ⟨by have := h.1; simpa using this, fun i w e => ?_⟩)
    obtain ⟨b, q, h1, h2, h3⟩ := h.2 (i + 1) w e
    exact ⟨b, q, h1, h2, h3⟩
theorem RlR.put {H : Hp} {L : List V} {rs : List (Int × Int × Int)} {p : Addr} {xs : List V} {o : HO} (h : RlR H L rs) (hp : H p = some (.lst xs)) : RlR (upd H p o) L rs :=
  ⟨h.1, fun i v e => by obtain ⟨a, r, h1, h2, h3, h4⟩ := h.2 i v e; exact ⟨a, r, h1, h2, lk_ne (ne_of h3 hp (fun z => by cases z)) h3, h4⟩⟩
theorem RlR.add {H : Hp} {L : List V} {rs : List (Int × Int × Int)} {a : Addr} {w l m : Int} (h : RlR H L rs) (ha : H a = some (.tup [.int w, .int l, .int m])) (h1 : Num w) (h2 : Num l) (h3 : Num m) : RlR H (L ++ [.ref a]) (rs ++ [(w, l, m)]) := by
  refine ⟨by rw [List.length_append, List.length_append, h.1]; rfl, fun i v e => ?_⟩
  by_cases hi : i < L.length
  · rw [List.getElem?_append_left hi] at e
    obtain ⟨b, r, q1, q2, q3⟩ := h.2 i v e
    exact ⟨b, r, q1, by rw [List.getElem?_append_left (by rw [← h.1]; exact hi)]; exact q2, q3⟩
  · have hi' : i = L.length := by
      have := (List.getElem?_eq_some_iff.mp e).1
      rw [List.length_append, List.length_singleton] at this
      omega
    subst hi'
    rw [List.getElem?_append_right (Nat.le_refl _), Nat.sub_self] at e
    cases e
    exact ⟨a, (w, l, m), rfl, by rw [h.1, List.getElem?_append_right (Nat.le_refl _), Nat.sub_self]; rfl, ha, h1, h2, h3⟩
theorem num_of {i : Int} (h : i.natAbs < 10 ^ 9) : Num i := Nat.lt_trans h (by decide +kernel)
/-- small numbers all -/
def Small (rs : List (Int × Int × Int)) : Prop := ∀ r ∈ rs, (r.1.natAbs < 10 ^ 9 ∧ r.2.1.natAbs < 10 ^ 9 ∧ r.2.2.natAbs < 10 ^ 9)
theorem Small.sh {rs : List (Int × Int × Int)} (h : Small rs) (hl : rs.length ≤ 100) : Sh (.list (rs.map lineD)) 4000 2 := by
  refine (Sh.list (n := 36) (k := 1) fun d hd => ?_).mono (by rw [List.length_map]; omega) (Nat.le_refl _)
  obtain ⟨r, hr, rfl⟩ := List.mem_map.mp hd
  obtain ⟨h1, h2, h3⟩ := h r hr
  exact Sh.tup (n := 10) (k := 0) (ds := [.int r.2.2]) fun x hx => by
    simp only [List.mem_cons, List.not_mem_nil, or_false] at hx
    rcases hx with rfl | rfl | rfl
    · exact Sh.int h1
    · exact Sh.int h2
    · exact Sh.int h3
end Ev

namespace Ev
open PySem PySem.Spec PyProof.Rows L2
local macro_rules | `(tactic| wtm_at "ev_ne") => `(tactic| first | assumption | exact Ne.symm (by assumption))
local macro_rules | `(tactic| wtm_at "ev_lk") => `(tactic| first | assumption | exact upd_same | (refine lk_new' (by assumption) ?_; wtm_at "ev_lk") | (refine lk_ne (by wtm_at "ev_ne") ?_; wtm_at "ev_lk") | (refine same_lk (by assumption) ?_; wtm_at "ev_lk"))
local macro_rules | `(tactic| wtm_at "ev_sm") => `(tactic| first | assumption | exact Same.refl _ | (refine same_new ?_ (by assumption); wtm_at "ev_sm") | (refine Same.trans ?_ (by assumption); wtm_at "ev_sm"))
local macro_rules | `(tactic| wtm_at "ev_no") => `(tactic| first | assumption | exact no_back (by assumption) | (refine no_new ?_ (by wtm_at "ev_ne"); wtm_at "ev_no"))
local macro_rules | `(tactic| wtm_at "ev_sq") => `(tactic| first | assumption | exact SqL.of (by wtm_at "ev_lk") | exact SqT.of (by wtm_at "ev_lk"))
local macro_rules | `(tactic| wtm_at "ev_step") => `(tactic| with_reducible first
  | refine rd_seq ?_ | refine rd_next ?_ | refine rd_ret ?_ | refine rd_retN ?_ | refine rd_if ?_ | refine rd_drop ?_ | refine rd_asg ?_ | refine rd_name ?_ | refine rd_gsub ?_ | refine rd_gnil ?_ | refine rd_gcons ?_
  | refine rd_c ?_ | refine rd_op ?_ | refine rd_un ?_ | refine rd_rI0 ?_ | refine rd_rU ?_ | refine rd_tup ?_ | refine rd_lst ?_ | refine rd_nil ?_ | refine rd_cons ?_ | refine rd_cb ?_ | refine rd_call ?_ | refine rd_sl ?_ | refine rd_no ?_ | refine rd_part ?_
  | refine rd_test ?_ | refine rd_tB ?_ | refine rd_not ?_ | refine rd_and ?_ | refine rd_or ?_ | refine rd_notV ?_ | refine rd_andV ?_ | refine rd_orV ?_ | refine rd_ifE ?_ | refine rd_bl ?_ | refine rd_ex ?_
  | refine rd_rng1 ?_ | refine rd_overL ?_ | refine rd_overT ?_ | refine rd_forA ?_ | refine rd_forB ?_ | refine rd_forC ?_ | refine rd_lcA ?_ | refine rd_lcB ?_ | refine rd_lcC ?_ | refine rd_bm ?_ | refine rd_mkv ?_ | refine rd_xv ?_
  | refine rd_T ?_ | refine rd_F ?_ | refine rd_True ?_ | refine rd_False ?_ | refine rd_int ?_ | refine rd_intB ?_ | refine rd_one ?_ | refine rd_two ?_)
local macro_rules | `(tactic| wtm_at "ev_cond") => `(tactic| first | assumption | exact (show (0 : Int) < _ by decide) | exact (show (0 : Int) < _ by omega) | exact Or.inl ⟨by decide, by decide⟩ | exact Or.inr ⟨by decide, by decide⟩ | exact pow_cond (by decide) (by decide) (by first | decide | omega) (by first | decide | omega) | exact wide_div (b := 2000) (by first | assumption | decide | omega) (by first | decide | omega) (by decide) (by decide))
local macro_rules | `(tactic| wtm_at "ev_side") => `(tactic| first
  | ((with_reducible apply rd_var); exact rfl)
  | ((with_reducible apply rd_ixL); (wtm_at "ev_sq"); exact rfl)
  | ((with_reducible apply rd_ixT); (wtm_at "ev_sq"); exact rfl)
  | ((with_reducible apply rd_eq); exact rfl)
  | ((with_reducible apply rd_ne); exact rfl)
  | ((with_reducible apply rd_setL); (wtm_at "ev_lk"); exact rfl)
  | ((with_reducible apply rd_gtup); (wtm_at "ev_sq"); exact rfl)
  | ((with_reducible apply rd_len); (wtm_at "ev_sq"))
  | ((with_reducible apply rd_lenT); (wtm_at "ev_sq"))
  | ((with_reducible apply rd_rg); (first | decide | omega); (first | decide | omega))
  | ((with_reducible apply rd_atL); (wtm_at "ev_sq"))
  | ((with_reducible apply rd_atT); (wtm_at "ev_sq"))
  | ((with_reducible apply rd_tyL); (wtm_at "ev_sq"))
  | ((with_reducible apply rd_cat); (wtm_at "ev_lk"); (wtm_at "ev_lk"); exact Nat.le_of_ble_eq_true rfl)
  | ((with_reducible apply rd_size); exact Nat.le_of_ble_eq_true rfl)
  | ((with_reducible apply rd_rI); wtm_at "ev_cond"))
local macro_rules | `(tactic| wtm_at "ev_rd") => `(tactic| repeat (first | wtm_at "ev_step" | wtm_at "ev_side"))
local macro_rules | `(tactic| wtm_at "ev_go") => `(tactic| ((try simp only [L2.start, List.map_cons, List.map_nil, List.length_cons, List.length_nil, Nat.reduceAdd, Nat.reduceSub, List.replicate_succ, List.replicate_zero, List.cons_append, List.nil_append]); wtm_at "ev_rd"; (try simp only [List.set_cons_zero, List.set_cons_succ, upd_upd])))
local macro_rules | `(tactic| wtm_at "ev_step") => `(tactic| with_reducible first | refine rd_par ?_ | refine rd_par2 ?_ | refine rd_forD ?_)
local macro_rules | `(tactic| wtm_at "ev_side") => `(tactic| ((with_reducible apply rd_enumL); (wtm_at "ev_sq")))
local macro_rules | `(tactic| wtm_at "ev_cond") => `(tactic| exact Num.mul (by assumption) (by assumption))

/-! ### the file bounds -/
theorem RlR.cons {H : Hp} {L : List V} {rs : List R3} {a : Addr} {w l m : Int} (h : RlR H L rs) (ha : H a = some (.tup [.int w, .int l, .int m])) (h1 : Num w) (h2 : Num l) (h3 : Num m) : RlR H (.ref a :: L) ((w, l, m) :: rs) := by
  refine ⟨by rw [List.length_cons, List.length_cons, h.1], fun i v e => ?_⟩
  cases i with
  | zero =>
    cases e
    exact ⟨a, (w, l, m), rfl, rfl, ha, h1, h2, h3⟩
  | succ i => exact h.2 i v e
theorem take_fold {α β : Type} {f : β → α → β} {b : β} {l : List α} {i : Nat} {r : α} (h : l[i]? = some r) : (l.take (i + 1)).foldl f b = f ((l.take i).foldl f b) r := by
  rw [List.take_add_one, h, List.foldl_append]
  rfl
def spIsRule : Sp := fun vs H Q _ => ∃ (a : Addr) (w l m : Int), vs = [.ref a] ∧ H a = some (.tup [.int w, .int l, .int m]) ∧ Q (.bl (decide (1 ≤ w) && decide (l ≤ m))) H
def spLow (K : PySem.W.Frag) : Sp := fun vs H Q _ => ∃ (b : Addr) (L : List V) (r0 : R3) (B : List R3), vs = [.ref b] ∧ SqL K H b L ∧ RlR H L (r0 :: B) ∧ ∀ p : Addr, H p = none → Num (lowM r0 B).1 → Num (lowM r0 B).2 → Q (.ref p) (upd H p (.tup [.int (lowM r0 B).1, .int (lowM r0 B).2]))
def spHigh (K : PySem.W.Frag) : Sp := fun vs H Q _ => ∃ (b : Addr) (L : List V) (r0 : R3) (B : List R3), vs = [.ref b] ∧ SqL K H b L ∧ RlR H L (r0 :: B) ∧ ∀ p : Addr, H p = none → Num (highM r0 B).1 → Num (highM r0 B).2 → Q (.ref p) (upd H p (.tup [.int (highM r0 B).1, .int (highM r0 B).2]))
def spExc (K : PySem.W.Frag) : Sp := fun vs H Q _ => ∃ (b : Addr) (L : List V) (B : List R3) (w l : Int), vs = [.ref b, .int w, .int l] ∧ SqL K H b L ∧ RlR H L B ∧ Num w ∧ Num l ∧
  ∀ (v : V) (H' : Hp), Same H H' → ((v = .non ∧ ∀ s ∈ B, l * s.1 ≤ s.2.2 * w) ∨ ∃ (j : Nat) (s : R3), v = .int j ∧ B[j]? = some s ∧ s.2.2 * w < l * s.1 ∧ ∀ (j' : Nat) s', j' < j → B[j']? = some s' → l * s'.1 ≤ s'.2.2 * w) → Q v H'
/-- what conflict tells -/
def ConfV (B : List R3) (v : V) (H : Hp) : Prop := (v = .non ∧ NoConf B) ∨ ∃ (p : Addr) (i j : Nat), v = .ref p ∧ H p = some (.tup [.int i, .int j]) ∧ FirstConf B i j
theorem ConfV.mono {B : List R3} {v : V} {H H' : Hp} (h : ConfV B v H) (s : Same H H') : ConfV B v H' := by
  rcases h with h | ⟨p, i, j, rfl, e, f⟩
  · exact .inl h
  · exact .inr ⟨p, i, j, rfl, s _ _ e, f⟩
theorem ConfV.put {B : List R3} {v : V} {H : Hp} {p : Addr} {xs : List V} {o : HO} (h : ConfV B v H) (hp : H p = some (.lst xs)) : ConfV B v (upd H p o) := by
  rcases h with h | ⟨q, i, j, rfl, e, f⟩
  · exact .inl h
  · exact .inr ⟨q, i, j, rfl, lk_ne (ne_of e hp (fun z => by cases z)) e, f⟩
def spConf (K : PySem.W.Frag) : Sp := fun vs H Q _ => ∃ (b : Addr) (L : List V) (r0 : R3) (B : List R3), vs = [.ref b] ∧ SqL K H b L ∧ RlR H L (r0 :: B) ∧ Wide1 (r0 :: B) ∧ ∀ (v : V) (H' : Hp), Same H H' → ConfV (r0 :: B) v H' → Q v H'
section
variable {P : Program} {w : World} {K : PySem.W.Frag} {mg : Str → Option Value} {base : Heap}
theorem ok_is_rule {f : Addr} {fd : FuncData} (F : Fun K "is_rule" "is_rule" s_is_rule f fd) : FnOk P w K mg base CX0 1 f fd ["rule"] spIsRule := by
  refine F.ok sc_is_rule (fun vs H Q E h => ?_) (fun cdv A outer s H vs Q E hr h => ?_)
  · obtain ⟨a, w, l, m, rfl, _⟩ := h
    rfl
  · obtain ⟨a, w, l, m, rfl, ha, k⟩ := h
    refine ⟨_, (pss_cons (ps_asg (pv 0) (pg_tup rfl (pgs_cons (pg_name (i := 1) sc_is_rule.nd rfl (Or.inl rfl)) (pgs_cons (pg_name (i := 2) sc_is_rule.nd rfl (Or.inl rfl)) (pgs_cons (pg_name (i := 3) sc_is_rule.nd rfl (Or.inl rfl)) pgs_nil)))))
      (pss_one (ps_ret (pe_and (pe_cmpR op_ge (pv 1) pe_int (nomark _)) (pe_one (pe_cmpR op_le (pv 2) (pv 3) (nomark _))))))), ?_⟩
    wtm_at "ev_go"
    refine rd_ite (fun h1 => ?_) (fun h1 => ?_)
    · rw [decide_eq_true h1, Bool.true_and] at k
      wtm_at "ev_go"
      exact k
    · rw [decide_eq_false h1, Bool.false_and] at k
      exact k
theorem ok_lowest {f : Addr} {fd : FuncData} (F : Fun K "lowest_most" "lowest_most" s_lowest_most f fd) (T : Blt mg) : FnOk P w K mg base CX0 1 f fd ["bounds"] (spLow K) := by
  refine F.ok sc_lowest_most (fun vs H Q E h => ?_) (fun cdv A outer s H vs Q E hr h => ?_)
  · obtain ⟨b, L, r0, B, rfl, _⟩ := h
    rfl
  · obtain ⟨b, L, r0, B, rfl, hb, hR, k⟩ := h
    obtain ⟨x0, L0, rfl⟩ : ∃ x L0, L = x :: L0 := by
      cases L with
      | nil => cases hR.1
      | cons x L0 => exact ⟨x, L0, rfl⟩
    obtain ⟨a0, r0', rfl, e0, h0, nw, nl, nm⟩ := hR.2 0 _ rfl
    cases e0
    refine ⟨_, (pss_cons (ps_asg (pe_ix ix_list (pv 0) pe_int (fun _ _ => rfl)) (pg_tup rfl (pgs_cons (pg_name (i := 1) sc_lowest_most.nd rfl (Or.inl rfl)) (pgs_cons (pg_name (i := 2) sc_lowest_most.nd rfl (Or.inl rfl)) (pgs_cons (pg_name (i := 3) sc_lowest_most.nd rfl (Or.inl rfl)) pgs_nil)))))
      (pss_cons (ps_for PassesOwn.never rfl (pi_list (pv 0)) (pg_tup rfl (pgs_cons (pg_name (i := 4) sc_lowest_most.nd rfl (Or.inl rfl)) (pgs_cons (pg_name (i := 2) sc_lowest_most.nd rfl (Or.inl rfl)) (pgs_cons (pg_name (i := 5) sc_lowest_most.nd rfl (Or.inl rfl)) pgs_nil)))) 
        (pss_one (ps_if (pt_cmpR op_lt (pe_op op_mulW (pv 5) (pv 1)) (pe_op op_mulW (pv 3) (pv 4)) (nomark _)) 
          (pss_one (ps_par (i := 1) (j := 3) (by rfl) sc_lowest_most.nd rfl rfl (by decide) rfl rfl (pa_cons (pv 4) (pa_cons (pv 5) pa_nil)) (by rfl))) pss_nil)))
      (pss_one (ps_ret (pe_tup (pa_cons (pv 3) (pa_cons (pv 1) pa_nil))))))), ?_⟩
    wtm_at "ev_go"
    refine rd_ixL hb (atI_nat (j := 0) rfl) ?_
    wtm_at "ev_go"
    refine rd_forL (fun i σ' H' => ∃ (x2 x4 x5 : Option V) (bw bm : Int), σ' = [some (.ref b), some (.int bw), x2, some (.int bm), x4, x5] ∧ H' = H ∧ Num bw ∧ Num bm ∧ (bm, bw) = ((r0 :: B).take i).foldl lowStep (r0.2.2, r0.1)) ⟨_, _, _, _, _, rfl, rfl, nw, nm, rfl⟩ (fun i σ' H' _ h => by obtain ⟨_, _, _, _, _, _, rfl, _⟩ := h; exact hb) ?_ ?_
    · rintro i x σ' H' hx ⟨x2, x4, x5, bw, bm, rfl, rfl, nbw, nbm, st⟩
      obtain ⟨a, r, rfl, er, ha, nw', nl', nm'⟩ := hR.2 i x hx
      have st' := take_fold (f := lowStep) (b := (r0.2.2, r0.1)) er
      rw [← st] at st'
      wtm_at "ev_go"
      refine rd_ite (fun c => ?_) (fun c => ?_)
      · wtm_at "ev_go"
        refine ⟨_, _, _, _, _, rfl, trivial, nw', nm', ?_⟩
        rw [st']
        unfold lowStep
        rw [if_pos c]
      · wtm_at "ev_go"
        refine ⟨_, _, _, _, _, rfl, trivial, nbw, nbm, ?_⟩
        rw [st']
        unfold lowStep
        rw [if_neg c]
    · rintro σ' H' ⟨x2, x4, x5, bw, bm, rfl, rfl, nbw, nbm, st⟩
      rw [hR.1, List.take_length] at st
      have e : lowM r0 B = (bm, bw) := st.symm
      rw [e] at k
      wtm_at "ev_go"
      exact fun p hp => k p hp nbm nbw
theorem ok_exceeded {f : Addr} {fd : FuncData} (F : Fun K "first_exceeded" "first_exceeded" s_first_exceeded f fd) (T : Blt mg) : FnOk P w K mg base CX0 1 f fd ["bounds", "width", "least"] (spExc K) := by
  refine F.ok sc_first_exceeded (fun vs H Q E h => ?_) (fun cdv A outer s H vs Q E hr h => ?_)
  · obtain ⟨b, L, B, w, l, rfl, _⟩ := h
    rfl
  · obtain ⟨b, L, B, w, l, rfl, hb, hR, nw, nl, k⟩ := h
    refine ⟨_, (pss_cons (ps_for PassesOwn.never rfl (pi_enum (by rfl) T.n_enumerate (pa_cons (pv 0) pa_nil)) (pg_tup rfl (pgs_cons (pg_name (i := 3) sc_first_exceeded.nd rfl (Or.inl rfl)) (pgs_cons (pg_tup rfl (pgs_cons (pg_name (i := 4) sc_first_exceeded.nd rfl (Or.inl rfl)) (pgs_cons (pg_name (i := 5) sc_first_exceeded.nd rfl (Or.inl rfl)) (pgs_cons (pg_name (i := 6) sc_first_exceeded.nd rfl (Or.inl rfl)) pgs_nil)))) pgs_nil))) 
        (pss_one (ps_if (pt_cmpR op_gt (pe_op op_mulW (pv 2) (pv 4)) (pe_op op_mulW (pv 6) (pv 1)) (nomark _)) 
          (pss_one (ps_ret (pv 3))) pss_nil)))
      (pss_one (ps_ret pe_non))), ?_⟩
    wtm_at "ev_go"
    refine rd_forE (fun i σ' H' => ∃ (x3 x4 x5 x6 : Option V), σ' = [some (.ref b), some (.int w), some (.int l), x3, x4, x5, x6] ∧ Same H H' ∧ ∀ (j : Nat) s, j < i → B[j]? = some s → l * s.1 ≤ s.2.2 * w) ⟨_, _, _, _, rfl, Same.refl _, fun j _ hj => absurd hj (Nat.not_lt_zero _)⟩ (fun i σ' H' _ h => by obtain ⟨_, _, _, _, _, z, _⟩ := h; exact sqL_same hb z) ?_ ?_
    · rintro i x σ' H' p hx ⟨x3, x4, x5, x6, rfl, sm, al⟩ hp
      have sm2 := sm.trans (Same.new (o := .tup [.int i, x]) hp)
      obtain ⟨a, r, rfl, er, ha, nw', nl', nm'⟩ := (hR.mono sm2).2 i x hx
      wtm_at "ev_go"
      refine rd_ite (fun c => ?_) (fun c => ?_)
      · wtm_at "ev_go"
        exact k _ _ sm2 (.inr ⟨i, r, rfl, er, c, al⟩)
      · wtm_at "ev_go"
        refine ⟨_, _, _, _, rfl, sm2, fun j s hj e => ?_⟩
        rcases Nat.lt_succ_iff_lt_or_eq.mp hj with h | rfl
        · exact al j s h e
        · rw [er] at e
          cases e
          omega
    · rintro σ' H' ⟨x3, x4, x5, x6, rfl, sm, al⟩
      wtm_at "ev_go"
      refine k _ _ sm (.inl ⟨rfl, fun s hs => ?_⟩)
      obtain ⟨j, hj⟩ := List.getElem?_of_mem hs
      exact al j s (by rw [hR.1]; exact (List.getElem?_eq_some_iff.mp hj).1) hj
theorem ok_conflict {f : Addr} {fd : FuncData} (F : Fun K "first_conflict" "first_conflict" s_first_conflict f fd) (T : Blt mg) (GL : CalN P w K mg base 1 "lowest_most" (spLow K)) (GE : CalN P w K mg base 1 "first_exceeded" (spExc K)) : FnOk P w K mg base CX0 2 f fd ["bounds"] (spConf K) := by
  refine F.ok sc_first_conflict (fun vs H Q E h => ?_) (fun cdv A outer s H vs Q E hr h => ?_)
  · obtain ⟨b, L, r0, B, rfl, _⟩ := h
    rfl
  · obtain ⟨b, L, r0, B, rfl, hb, hR, hW, k⟩ := h
    have isl := low_is r0 B hW
    refine ⟨_, (pss_cons (ps_asg (pe_cN GL hr (by decide) (by rfl) (pa_cons (pv 0) pa_nil)) (pg_tup rfl (pgs_cons (pg_name (i := 1) sc_first_conflict.nd rfl (Or.inl rfl)) (pgs_cons (pg_name (i := 2) sc_first_conflict.nd rfl (Or.inl rfl)) pgs_nil))))
      (pss_cons (ps_for PassesOwn.never rfl (pi_enum (by rfl) T.n_enumerate (pa_cons (pv 0) pa_nil)) (pg_tup rfl (pgs_cons (pg_name (i := 3) sc_first_conflict.nd rfl (Or.inl rfl)) (pgs_cons (pg_tup rfl (pgs_cons (pg_name (i := 4) sc_first_conflict.nd rfl (Or.inl rfl)) (pgs_cons (pg_name (i := 5) sc_first_conflict.nd rfl (Or.inl rfl)) (pgs_cons (pg_name (i := 6) sc_first_conflict.nd rfl (Or.inl rfl)) pgs_nil)))) pgs_nil))) 
        (pss_one (ps_if (pt_cmpR op_gt (pe_op op_mulW (pv 5) (pv 2)) (pe_op op_mulW (pv 1) (pv 4)) (nomark _)) 
          (pss_one (ps_ret (pe_tup (pa_cons (pv 3) (pa_cons (pe_cN GE hr (by decide) (by rfl) (pa_cons (pv 0) (pa_cons (pv 4) (pa_cons (pv 5) pa_nil)))) pa_nil))))) pss_nil)))
      (pss_one (ps_ret pe_non)))), ?_⟩
    wtm_at "ev_go"
    refine ⟨b, L, r0, B, rfl, hb, hR, fun p hp nx ny => ?_⟩
    generalize lowM r0 B = lm at isl nx ny ⊢
    wtm_at "ev_go"
    have s0 : Same H (upd H p (.tup [.int lm.1, .int lm.2])) := Same.new hp
    refine rd_enumL (sqL_same hb s0) ?_
    refine rd_forE (fun i σ' H' => ∃ (x3 x4 x5 x6 : Option V), σ' = [some (.ref b), some (.int lm.1), some (.int lm.2), x3, x4, x5, x6] ∧ Same H H' ∧ ∀ (j : Nat) r, j < i → (r0 :: B)[j]? = some r → r.2.1 * lm.2 ≤ lm.1 * r.1) ⟨_, _, _, _, rfl, s0, fun j _ hj => absurd hj (Nat.not_lt_zero _)⟩ (fun i σ' H' _ h => by obtain ⟨_, _, _, _, _, z, _⟩ := h; exact sqL_same hb z) ?_ ?_
    · rintro i v σ' H' p hx ⟨x3, x4, x5, x6, rfl, sm, al⟩ hp
      have sm2 := sm.trans (Same.new (o := .tup [.int i, v]) hp)
      obtain ⟨a, r, rfl, er, ha, nw', nl', nm'⟩ := (hR.mono sm2).2 i v hx
      wtm_at "ev_go"
      refine rd_ite (fun c => ?_) (fun c => ?_)
      · wtm_at "ev_go"
        refine ⟨b, L, r0 :: B, r.1, r.2.1, rfl, sqL_same hb sm2, hR.mono sm2, nw', nl', fun v H3 s3 hv => ?_⟩
        wtm_at "ev_go"
        intro q hq
        rcases hv with ⟨_, hn⟩ | ⟨j, s, rfl, es, cs, als⟩
        · obtain ⟨s, hs, z⟩ := low_stop isl c
          have := hn s hs
          omega
        · refine k _ _ ((sm2.trans s3).trans (Same.new hq)) (.inr ⟨q, i, j, rfl, upd_same, r, s, er, es, cs, fun i' r' hi e => ?_, als⟩)
          exact low_pass hW isl (hW r' (List.mem_of_getElem? e)) (al i' r' hi e)
      · wtm_at "ev_go"
        refine ⟨_, _, _, _, rfl, sm2, fun j s hj e => ?_⟩
        rcases Nat.lt_succ_iff_lt_or_eq.mp hj with h | rfl
        · exact al j s h e
        · rw [er] at e
          cases e
          omega
    · rintro σ' H' ⟨x3, x4, x5, x6, rfl, sm, al⟩
      wtm_at "ev_go"
      refine k _ _ sm (.inl ⟨rfl, fun r hr => ?_⟩)
      obtain ⟨j, hj⟩ := List.getElem?_of_mem hr
      exact low_pass hW isl (hW r hr) (al j r (by rw [hR.1]; exact (List.getElem?_eq_some_iff.mp hj).1) hj)
end
/-! ### the file books -/
structure TxB (K : PySem.W.Frag) (mg : Str → Option Value) (fI cD cR cB fB fN : Addr) : Prop where
  b : Blt mg
  xD : ExT K mg "InvalidDays" cD fI
  xR : ExT K mg "InvalidRule" cR fI
  cls : Cls K cB
  n1 : NoAttr K cB "_low"
  n2 : NoAttr K cB "_high"
  n3 : NoAttr K cB "_rules"
  n4 : NoAttr K cB "_conflict"
  n5 : NoAttr K cB "_sums"
  n6 : NoAttr K cB "_spots"
  mB : Meth K cB "bounds" fB
  mB2 : Mk K cB fN
  gB : mg "Book" = some (.ref cB)

section
variable {K : PySem.W.Frag} {mg : Str → Option Value} {σ : L2.St} {H : Hp} {a C dx fI : Addr} {fs : List (Str × V)} {f x : Str} {v : V} {te tv : TE} {D : Ends}
theorem rd_fld {Q : VK} (h : te σ H fun x H1 => ∃ a C dx fs v, x = .ref a ∧ H1 a = some (.ins C dx fs) ∧ Cls K C ∧ NoAttr K C f ∧ fs.lookup f = some v ∧ Q v H1) : tFld K te f σ H Q := h
theorem rd_fldA {Q : V → Prop} (h : H a = some (.ins C dx fs)) (c : Cls K C) (n : NoAttr K C f) (l : fs.lookup f = some v) (q : Q v) : ∃ a' C dx fs v, V.ref a = .ref a' ∧ H a' = some (.ins C dx fs) ∧ Cls K C ∧ NoAttr K C f ∧ fs.lookup f = some v ∧ Q v := ⟨a, C, dx, fs, v, rfl, h, c, n, l, q⟩
theorem rd_sfld (h : tv σ H fun y H1 => te σ H1 fun x H2 => ∃ a C dx fs, x = .ref a ∧ H2 a = some (.ins C dx fs) ∧ Cls K C ∧ NoAttr K C f ∧ fs.length < 1000 ∧ D.nx σ (upd H2 a (.ins C dx (putF f y fs)))) : sFld K te tv f D σ H := h
theorem rd_sfldA {A : Addr → Addr → Addr → List (Str × V) → Prop} (h : H a = some (.ins C dx fs)) (c : Cls K C) (n : NoAttr K C f) (l : fs.length < 1000) (q : A a C dx fs) : ∃ a' C dx fs, V.ref a = .ref a' ∧ H a' = some (.ins C dx fs) ∧ Cls K C ∧ NoAttr K C f ∧ fs.length < 1000 ∧ A a' C dx fs := ⟨a, C, dx, fs, rfl, h, c, n, l, q⟩
theorem lk_put {g : Str} (h : ¬ g = f) : (putF f v fs).lookup g = fs.lookup g := by rw [lookup_putF, if_neg h]
theorem lk_put0 : (putF f v fs).lookup f = some v := by rw [lookup_putF, if_pos rfl]
theorem len_put : ∀ fs : List (Str × V), (putF f v fs).length ≤ fs.length + 1
  | [] => Nat.le_refl _
  | (g, x) :: r => by
    show (if g = f then (g, v) :: r else (g, x) :: putF f v r).length ≤ _
    by_cases e : g = f
    · rw [if_pos e, List.length_cons, List.length_cons]
      omega
    · rw [if_neg e, List.length_cons, List.length_cons]
      have := len_put r
      omega
theorem len_put' {n : Nat} (h : fs.length ≤ n) : (putF f v fs).length ≤ n + 1 := Nat.le_trans (len_put fs) (by omega)
theorem len_nil : ([] : List (Str × V)).length ≤ 0 := Nat.le_refl _
/-- raise C(v), C an own error: what stands behind it -/
theorem rd_mko {Q : XK} (T : ExT K mg x C fI) (q : ∀ d H', Same H H' → H' d = some (.xd [(("value" : Str), v)]) → Q (.ref C) (some d) H') :
    [v].length ≤ 1000 ∧ ∀ a, H a = none → spInit K (.ref a :: ([v] ++ [])) (upd H a (exo a C none)) (fun u H2 => u = .non ∧ ∃ (d : Addr) (fs : List (Str × V)), H2 a = some (exo a C (some d)) ∧ H2 d = some (exd d fs) ∧ H d = none ∧ Q (.ref C) (some d) (upd (del H2 a) d (.xd fs))) (fun _ _ _ => False) := by
  refine ⟨Nat.le_of_ble_eq_true rfl, fun a ha => ⟨a, C, v, rfl, upd_same, T.c, T.n, fun d hd ne => ⟨rfl, d, _, upd_same, by rw [upd_ne ne]; exact upd_same, ?_, q d _ (fun b o e => ?_) upd_same⟩⟩⟩
  · rw [upd_ne ne] at hd
    exact hd
  · have h1 : b ≠ a := ne_of_none e ha
    have h2 : b ≠ d := ne_of_none (lk_new e ha) hd
    rw [upd_ne h2, del_ne h1, upd_ne h1, upd_ne h2, upd_ne h1]
    exact e
theorem rd_raise {t : L2.St → Hp → XK → Prop} {W : WX} (h : t σ H fun cls d H' => W cls d σ H') : (fun (_ : Ends) σ H => t σ H fun cls d H' => W cls d σ H') D σ H := h
theorem rd_tmko {sp : Sp} {dvs : List V} {ta : TA} {Q : XK} (h : ta σ H fun vs H1 => vs.length ≤ 1000 ∧ ∀ a, H1 a = none → sp (.ref a :: (vs ++ dvs)) (upd H1 a (exo a C none))
  (fun v H2 => v = .non ∧ ∃ (d : Addr) (fs : List (Str × V)), H2 a = some (exo a C (some d)) ∧ H2 d = some (exd d fs) ∧ H1 d = none ∧ Q (.ref C) (some d) (upd (del H2 a) d (.xd fs))) (fun _ _ _ => False)) : tMkO C sp dvs ta σ H Q := h
theorem rd_meth0 {m : Str} {sp : Sp} {dvs : List V} {E : XK} {t : TA} {Q : VK} (h : te σ H fun x H1 => ∃ a dx fs, x = .ref a ∧ H1 a = some (.ins C dx fs) ∧ fs.lookup m = none ∧ t σ H1 fun vs H2 => sp (x :: (vs ++ dvs)) H2 Q E) : tMeth C m sp dvs E te t σ H Q := h
theorem rd_make {sp : Sp} {dvs : List V} {E : XK} {t : TA} {Q : VK} (h : t σ H fun vs H1 => ∀ x dx, H1 x = none → H1 dx = none → dx ≠ x → sp (.ref x :: (vs ++ dvs)) (upd (upd H1 dx (.own x)) x (.ins C dx [])) (fun v H2 => v = .non ∧ Q (.ref x) H2) E) : tMake C sp dvs E t σ H Q := h
theorem rd_prop {sp : Sp} {dvs : List V} {E : XK} {ta : TE} {Q : VK} (h : ta σ H fun x H1 => ∃ a dx fs, x = .ref a ∧ H1 a = some (.ins C dx fs) ∧ sp (.ref a :: dvs) H1 Q E) : tProp C sp dvs E ta σ H Q := h
theorem rd_cut {t u : TS} {D : Ends} (M : L2.St → Hp → Prop) (h1 : t { D with nx := M } σ H) (h2 : ∀ σ' H', M σ' H' → u D σ' H') : C8.tCut t u D σ H := ⟨M, h1, h2⟩
end
local macro_rules | `(tactic| wtm_at "ev_step") => `(tactic| with_reducible first | refine rd_fld ?_ | refine rd_sfld ?_ | refine rd_tmko ?_ | refine rd_meth0 ?_ | refine rd_make ?_ | refine rd_prop ?_ | refine rd_callK0 ?_)

/-- the first wrong rule -/
def Bad (rs : List R3) (i : Nat) : Prop := ∃ r, rs[i]? = some r ∧ okR r = false ∧ ∀ (j : Nat) r', j < i → rs[j]? = some r' → okR r' = true
def Fine (rs : List R3) : Prop := ∀ (j : Nat) r', rs[j]? = some r' → okR r' = true
theorem Fine.wide {rs : List R3} {lo hi : Int} (h : Fine rs) : Wide1 ((1, lo, hi) :: rs) := fun r hr => by
  rcases List.mem_cons.mp hr with rfl | hr
  · exact Int.le_refl _
  · obtain ⟨j, hj⟩ := List.getElem?_of_mem hr
    have := h j r hj
    unfold okR at this
    exact of_decide_eq_true (Bool.and_eq_true_iff.mp this).1
def spBnd (C : Addr) : Sp := fun vs H Q _ => ∃ (a dx r : Addr) (fs : List (Str × V)) (lo hi : Int) (L : List V) (rs : List R3), vs = [.ref a] ∧ H a = some (.ins C dx fs) ∧ fs.lookup ("_low" : Str) = some (.int lo) ∧ fs.lookup ("_high" : Str) = some (.int hi) ∧ fs.lookup ("_rules" : Str) = some (.ref r) ∧ H r = some (.lst L) ∧ RlR H L rs ∧ L.length ≤ 1000 ∧ Num lo ∧ Num hi ∧
  ∀ (p : Addr) (L' : List V) (H' : Hp), Same H H' → H' p = some (.lst L') → RlR H' L' ((1, lo, hi) :: rs) → Q (.ref p) H'
def bookField (m : Str) : Bool := m == ("_low" : Str) || m == ("_high" : Str) || m == ("_rules" : Str) || m == ("_conflict" : Str) || m == ("_sums" : Str) || m == ("_spots" : Str)
/-- at a: a book with these numbers, its rules those of L in a list of its own -/
def BookAt (C : Addr) (H : Hp) (a : Addr) (lo hi : Int) (L : List V) (rs : List R3) : Prop := ∃ (dx l : Addr) (fs : List (Str × V)) (v : V), H a = some (.ins C dx fs) ∧ H l = some (.lst L) ∧ fs.lookup ("_low" : Str) = some (.int lo) ∧ fs.lookup ("_high" : Str) = some (.int hi) ∧ fs.lookup ("_rules" : Str) = some (.ref l) ∧
  fs.lookup ("_conflict" : Str) = some v ∧ ConfV ((1, lo, hi) :: rs) v H ∧ RlR H L rs ∧ ∀ m : Str, bookField m = false → fs.lookup m = none
theorem BookAt.mono {C a : Addr} {H H' : Hp} {lo hi : Int} {L : List V} {rs : List R3} (h : BookAt C H a lo hi L rs) (s : Same H H') : BookAt C H' a lo hi L rs := by
  obtain ⟨dx, l, fs, v, h1, h2, q1, q2, q3, q4, q5, q6, r⟩ := h
  exact ⟨dx, l, fs, v, s _ _ h1, s _ _ h2, q1, q2, q3, q4, q5.mono s, q6.mono s, r⟩
theorem BookAt.put {C a p : Addr} {H : Hp} {lo hi n : Int} {L Lp : List V} {rs : List R3} {o : HO} (h : BookAt C H a lo hi L rs) (hp : H p = some (.lst Lp)) (hL : PoolL Lp n) : BookAt C (upd H p o) a lo hi L rs := by
  obtain ⟨dx, l, fs, v, h1, h2, q1, q2, q3, q4, q5, q6, r⟩ := h
  refine ⟨dx, l, fs, v, lk_ne (ne_of h1 hp (fun z => by cases z)) h1, lk_ne (fun e => ?_) h2, q1, q2, q3, q4, q5.put hp, q6.put hp, r⟩
  subst e
  rw [h2] at hp
  cases hp
  obtain ⟨z, m, c, rfl, _⟩ := hL
  obtain ⟨b, r', e, _⟩ := q6.2 0 _ rfl
  cases e
def spBook (C cD cR : Addr) : Sp := fun vs H Q E => ∃ (a dx r : Addr) (lo hi : Int) (L : List V) (rs : List R3), vs = [.ref a, .int lo, .int hi, .ref r] ∧ H a = some (.ins C dx []) ∧ H r = some (.lst L) ∧ RlR H L rs ∧ L.length ≤ 1000 ∧ Num lo ∧ Num hi ∧
  (hi < lo → ∀ (d t : Addr) (H' : Hp), Same H H' → H' d = some (.xd [(("value" : Str), .ref t)]) → H' t = some (.tup [.int lo, .int hi]) → E (.ref cD) (some d) H') ∧
  (lo ≤ hi → ∀ (i : Nat) (d : Addr) (H' : Hp), Bad rs i → Same H H' → H' d = some (.xd [(("value" : Str), .int i)]) → E (.ref cR) (some d) H') ∧
  (lo ≤ hi → Fine rs → ∀ H', Fr a H H' → BookAt C H' a lo hi L rs → Q .non H')
theorem bookF_none {a b c d e f : V} {m : Str} (h : bookField m = false) : (putF "_spots" f (putF "_sums" e (putF "_conflict" d (putF "_rules" c (putF "_high" b (putF "_low" a [])))))).lookup m = none := by
  unfold bookField at h
  simp only [Bool.or_eq_false_iff, beq_eq_false_iff_ne] at h
  obtain ⟨⟨⟨⟨⟨h1, h2⟩, h3⟩, h4⟩, h5⟩, h6⟩ := h
  rw [lk_put h6, lk_put h5, lk_put h4, lk_put h3, lk_put h2, lk_put h1]
  rfl
section
variable {P : Program} {w : World} {K : PySem.W.Frag} {mg : Str → Option Value} {base : Heap} {fI cD cR cB fB fN : Addr}
theorem ok_bounds {f : Addr} {fd : FuncData} (F : Fun K "bounds" "Book.bounds" s_Book_bounds f fd) (T : TxB K mg fI cD cR cB fB fN) : FnOk P w K mg base CX0 1 f fd ["self"] (spBnd cB) := by
  refine F.ok sc_Book_bounds (fun vs H Q E h => ?_) (fun cdv A outer s H vs Q E hr h => ?_)
  · obtain ⟨a, dx, r, fs, lo, hi, L, rs, rfl, _⟩ := h
    rfl
  · obtain ⟨a, dx, r, fs, lo, hi, L, rs, rfl, ha, l1, l2, l3, hL, hR, hle, nlo, nhi, k⟩ := h
    refine ⟨_, (pss_one (ps_ret (pe_op op_cat (pe_lst (pa_cons (pe_tup (pa_cons pe_int (pa_cons (pe_fld (pv 0) rfl) (pa_cons (pe_fld (pv 0) rfl) pa_nil)))) pa_nil)) (pe_fld (pv 0) rfl)))), ?_⟩
    wtm_at "ev_go"
    refine rd_fldA ha T.cls T.n1 l1 ?_
    wtm_at "ev_go"
    refine rd_fldA ha T.cls T.n2 l2 ?_
    wtm_at "ev_go"
    intro t ht
    wtm_at "ev_go"
    intro q hq
    have s1 : Same H (upd H t (.tup [.int 1, .int lo, .int hi])) := Same.new ht
    have s2 := s1.trans (Same.new (o := .lst [.ref t]) hq)
    have nt : t ≠ q := (ne_of_none upd_same hq)
    wtm_at "ev_go"
    refine rd_fldA (s2 _ _ ha) T.cls T.n3 l3 ?_
    wtm_at "ev_go"
    refine rd_cat upd_same (s2 _ _ hL) (by rw [List.length_cons, List.length_nil]; omega) (fun p hp => ?_)
    have s3 := s2.trans (Same.new (o := .lst ([.ref t] ++ L)) hp)
    exact k p _ _ s3 upd_same ((hR.mono s3).cons (lk_ne (ne_of_none (lk_ne nt upd_same) hp) (lk_ne nt upd_same)) (by decide : (1 : Nat) < 2 ^ 1000) nlo nhi)
theorem ok_binit {f : Addr} {fd fdI fdB : FuncData} (F : Fun K "__init__" "Book.__init__" s_Book_init f fd) (T : TxB K mg fI cD cR cB fB fN) (GI : FnOk P w K mg base CX0 1 fI fdI ["self", "value"] (spInit K)) (bI : Binds K fdI ["self", "value"] [])
    (GR : CalN P w K mg base 1 "is_rule" spIsRule) (GC : CalN P w K mg base 2 "first_conflict" (spConf K)) (GB : FnOk P w K mg base CX0 1 fB fdB ["self"] (spBnd cB)) (bB : Binds K fdB ["self"] []) : FnOk P w K mg base (L2.CX P w) 4 f fd ["self", "low", "high", "rules"] (spBook cB cD cR) := by
  refine F.okX sc_Book_init (fun vs H Q E h => ?_) (fun cdv A outer s H vs Q E hr h => ?_)
  · obtain ⟨a, dx, r, lo, hi, L, rs, rfl, _⟩ := h
    rfl
  · obtain ⟨a, dx, r, lo, hi, L, rs, rfl, ha, hr0, hR, hle, nlo, nhi, k1, k2, k3⟩ := h
    have hr1 : Room 2 _ := hr.mono (by decide)
    refine ⟨_, (pss_cons (ps_if (pt_cmpR op_gt (pv 1) (pv 2) (nomark _)) 
        (pss_one (ps_raise rfl (takes_of rfl rfl rfl rfl) (pmk_oex T.xD.c T.xD.i T.xD.t GI (hr.mono (by decide)) bI .nil pass0 (by rfl) T.xD.g (pa_cons (pe_tup (pa_cons (pv 1) (pa_cons (pv 2) pa_nil))) pa_nil)))) pss_nil)
      (pss_cons (ps_for (passes_of rfl) rfl (pi_enum (by rfl) T.b.n_enumerate (pa_cons (pv 3) pa_nil)) (pg_tup rfl (pgs_cons (pg_name (i := 4) sc_Book_init.nd rfl (Or.inl rfl)) (pgs_cons (pg_name (i := 5) sc_Book_init.nd rfl (Or.inl rfl)) pgs_nil))) 
        (pss_one (ps_if (pt_not (pt_val (pe_cN GR hr1 (by decide) (by rfl) (pa_cons (pv 5) pa_nil)))) 
          (pss_one (ps_raise rfl (takes_of rfl rfl rfl rfl) (pmk_oex T.xR.c T.xR.i T.xR.t GI (hr.mono (by decide)) bI .nil pass0 (by rfl) T.xR.g (pa_cons (pv 4) pa_nil)))) pss_nil)))
      (pss_cons (ps_fld (pv 0) (pv 1) rfl)
      (pss_cons (ps_fld (pv 0) (pv 2) rfl)
      (pss_cons (ps_fld (pv 0) (pe_callTy call_list_of (by rfl) T.b.n_list boot_list (pa_cons (pv 3) pa_nil)) rfl)
      (pss_cons (ps_fld (pv 0) (pe_cN GC hr1 (by decide) (by rfl) (pa_cons (pe_meth0 (pv 0) T.cls T.mB GB (hr.mono (by decide)) bB .nil pass0) pa_nil)) rfl)
      (pss_cons (ps_fld (pv 0) pe_non rfl)
      (pss_one (ps_fld (pv 0) pe_non rfl))))))))), ?_⟩
    wtm_at "ev_go"
    refine rd_ite (fun hlt => ?_) (fun hlt => ?_)
    · wtm_at "ev_go"
      intro t ht
      wtm_at "ev_go"
      exact rd_mko T.xD (fun d H' s e => k1 hlt d t H' ((Same.new ht).trans s) e (s _ _ upd_same))
    · wtm_at "ev_go"
      refine rd_forE (fun i σ' H' => ∃ (x4 x5 : Option V), σ' = [some (.ref a), some (.int lo), some (.int hi), some (.ref r), x4, x5] ∧ Same H H' ∧ ∀ (j : Nat) r', j < i → rs[j]? = some r' → okR r' = true) ⟨_, _, rfl, Same.refl _, fun j _ hj => absurd hj (Nat.not_lt_zero _)⟩
        (fun i σ' H' _ h => by obtain ⟨_, _, _, z, _⟩ := h; exact SqL.of (z _ _ hr0)) ?_ ?_
      · rintro i v σ' H' p hx ⟨x4, x5, rfl, sm, al⟩ hp
        have sm2 := sm.trans (Same.new (o := .tup [.int i, v]) hp)
        obtain ⟨b, q, rfl, hq, hb, nq⟩ := (hR.mono sm2).2 i v hx
        wtm_at "ev_go"
        refine ⟨b, q.1, q.2.1, q.2.2, rfl, hb, ?_⟩
        have e1 : (decide (1 ≤ q.1) && decide (q.2.1 ≤ q.2.2)) = okR q := rfl
        rw [e1]
        wtm_at "ev_go"
        cases ho : okR q with
        | true =>
          rw [if_neg (by decide : ¬ (!true) = true)]
          wtm_at "ev_go"
          refine ⟨_, _, rfl, sm2, fun j r' hj e => ?_⟩
          rcases Nat.lt_succ_iff_lt_or_eq.mp hj with h | rfl
          · exact al j r' h e
          · rw [hq] at e
            cases e
            exact ho
        | false =>
          rw [if_pos (by decide : (!false) = true)]
          wtm_at "ev_go"
          exact rd_mko T.xR (fun d H'' s e => k2 (by omega) i d H'' ⟨q, hq, ho, al⟩ (sm2.trans s) e)
      · rintro σ' H' ⟨x4, x5, rfl, sm, al⟩
        have fine : Fine rs := fun j r' e => al j r' (by rw [hR.1]; exact (List.getElem?_eq_some_iff.mp e).1) e
        wtm_at "ev_go"
        refine rd_sfldA (sm _ _ ha) T.cls T.n1 (by decide) ?_
        wtm_at "ev_go"
        refine rd_sfldA upd_same T.cls T.n2 (Nat.lt_of_le_of_lt (len_put _) (by decide)) ?_
        wtm_at "ev_go"
        have nra : r ≠ a := ne_of (sm _ _ hr0) (sm _ _ ha) (fun z => by cases z)
        refine ⟨r, L, rfl, .inl (SqL.of (lk_ne nra (sm _ _ hr0))), fun l hl => ?_⟩
        have nla : a ≠ l := ne_of_none upd_same hl
        wtm_at "ev_go"
        refine rd_sfldA (lk_ne nla upd_same) T.cls T.n3 (Nat.lt_of_le_of_lt (len_put' (len_put' len_nil)) (by decide)) ?_
        wtm_at "ev_go"
        refine ⟨a, dx, _, rfl, upd_same, by rw [lk_put (by decide +kernel), lk_put (by decide +kernel), lk_put (by decide +kernel)]; rfl, ?_⟩
        wtm_at "ev_go"
        have fr : Fr a H _ := (((Fr.of sm).put (x := .ins cB dx (putF "_high" (.int hi) (putF "_low" (.int lo) [])))).same (Same.new (o := .lst L) hl)).put (x := .ins cB dx (putF "_rules" (.ref l) (putF "_high" (.int hi) (putF "_low" (.int lo) []))))
        have ofFr : ∀ {H' : Hp}, Fr a H H' → RlR H' L rs := fun {H'} fr => ⟨hR.1, fun i v e => by
          obtain ⟨b, r', q1, q2, q3, q4⟩ := hR.2 i v e
          exact ⟨b, r', q1, q2, fr _ _ q3 (ne_of q3 ha (fun z => by cases z)), q4⟩⟩
        refine ⟨a, dx, l, _, lo, hi, L, rs, rfl, upd_same, by rw [lk_put (by decide +kernel), lk_put (by decide +kernel)]; exact lk_put0, by rw [lk_put (by decide +kernel)]; exact lk_put0, lk_put0, lk_ne (Ne.symm nla) upd_same, ofFr fr, hle, nlo, nhi, fun p L' H3 s3 hp3 r3 => ?_⟩
        wtm_at "ev_go"
        refine ⟨p, L', _, _, rfl, SqL.of hp3, r3, fine.wide, fun v H4 s4 hv => ?_⟩
        wtm_at "ev_go"
        refine rd_sfldA (s4 _ _ (s3 _ _ upd_same)) T.cls T.n4 (Nat.lt_of_le_of_lt (len_put' (len_put' (len_put' len_nil))) (by decide)) ?_
        wtm_at "ev_go"
        refine rd_sfldA upd_same T.cls T.n5 (Nat.lt_of_le_of_lt (len_put' (len_put' (len_put' (len_put' len_nil)))) (by decide)) ?_
        wtm_at "ev_go"
        refine rd_sfldA upd_same T.cls T.n6 (Nat.lt_of_le_of_lt (len_put' (len_put' (len_put' (len_put' (len_put' len_nil))))) (by decide)) ?_
        wtm_at "ev_go"
        have fr5 := (fr.same (s3.trans s4)).put (x := .ins cB dx (putF "_spots" .non (putF "_sums" .non (putF "_conflict" v (putF "_rules" (.ref l) (putF "_high" (.int hi) (putF "_low" (.int lo) [])))))))
        refine k3 (by omega) fine _ fr5 ⟨dx, l, _, v, upd_same, lk_ne (Ne.symm nla) ((s3.trans s4) _ _ (lk_ne (Ne.symm nla) upd_same)), ?_, ?_, ?_, ?_, ?_, ofFr fr5, fun m hm => bookF_none hm⟩
        · rw [lk_put (by decide +kernel), lk_put (by decide +kernel), lk_put (by decide +kernel), lk_put (by decide +kernel), lk_put (by decide +kernel)]
          exact lk_put0
        · rw [lk_put (by decide +kernel), lk_put (by decide +kernel), lk_put (by decide +kernel), lk_put (by decide +kernel)]
          exact lk_put0
        · rw [lk_put (by decide +kernel), lk_put (by decide +kernel), lk_put (by decide +kernel)]
          exact lk_put0
        · rw [lk_put (by decide +kernel), lk_put (by decide +kernel)]
          exact lk_put0
        · rcases hv with ⟨e, n⟩ | ⟨q, i, j, e, e2, n⟩
          · exact .inl ⟨e, n⟩
          · exact .inr ⟨q, i, j, e, lk_ne (ne_of e2 (s4 _ _ (s3 _ _ upd_same)) (fun z => by cases z)) e2, n⟩
end
end Ev

namespace Ev
open PySem PySem.Spec PyProof.Rows L2
local macro_rules | `(tactic| wtm_at "ev_ne") => `(tactic| first | assumption | exact Ne.symm (by assumption))
local macro_rules | `(tactic| wtm_at "ev_lk") => `(tactic| first | assumption | exact upd_same | (refine lk_new' (by assumption) ?_; wtm_at "ev_lk") | (refine lk_ne (by wtm_at "ev_ne") ?_; wtm_at "ev_lk") | (refine same_lk (by assumption) ?_; wtm_at "ev_lk"))
local macro_rules | `(tactic| wtm_at "ev_sm") => `(tactic| first | assumption | exact Same.refl _ | (refine same_new ?_ (by assumption); wtm_at "ev_sm") | (refine Same.trans ?_ (by assumption); wtm_at "ev_sm"))
local macro_rules | `(tactic| wtm_at "ev_no") => `(tactic| first | assumption | exact no_back (by assumption) | (refine no_new ?_ (by wtm_at "ev_ne"); wtm_at "ev_no"))
local macro_rules | `(tactic| wtm_at "ev_sq") => `(tactic| first | assumption | exact SqL.of (by wtm_at "ev_lk") | exact SqT.of (by wtm_at "ev_lk"))
local macro_rules | `(tactic| wtm_at "ev_step") => `(tactic| with_reducible first
  | refine rd_seq ?_ | refine rd_next ?_ | refine rd_ret ?_ | refine rd_retN ?_ | refine rd_if ?_ | refine rd_drop ?_ | refine rd_asg ?_ | refine rd_name ?_ | refine rd_gsub ?_ | refine rd_gnil ?_ | refine rd_gcons ?_
  | refine rd_c ?_ | refine rd_op ?_ | refine rd_un ?_ | refine rd_rI0 ?_ | refine rd_rU ?_ | refine rd_tup ?_ | refine rd_lst ?_ | refine rd_nil ?_ | refine rd_cons ?_ | refine rd_cb ?_ | refine rd_call ?_ | refine rd_sl ?_ | refine rd_no ?_ | refine rd_part ?_
  | refine rd_test ?_ | refine rd_tB ?_ | refine rd_not ?_ | refine rd_and ?_ | refine rd_or ?_ | refine rd_notV ?_ | refine rd_andV ?_ | refine rd_orV ?_ | refine rd_ifE ?_ | refine rd_bl ?_ | refine rd_ex ?_
  | refine rd_rng1 ?_ | refine rd_overL ?_ | refine rd_overT ?_ | refine rd_forA ?_ | refine rd_forB ?_ | refine rd_forC ?_ | refine rd_lcA ?_ | refine rd_lcB ?_ | refine rd_lcC ?_ | refine rd_bm ?_ | refine rd_mkv ?_ | refine rd_xv ?_
  | refine rd_T ?_ | refine rd_F ?_ | refine rd_True ?_ | refine rd_False ?_ | refine rd_int ?_ | refine rd_intB ?_ | refine rd_one ?_ | refine rd_two ?_)
local macro_rules | `(tactic| wtm_at "ev_cond") => `(tactic| first | assumption | exact (show (0 : Int) < _ by decide) | exact (show (0 : Int) < _ by omega) | exact Or.inl ⟨by decide, by decide⟩ | exact Or.inr ⟨by decide, by decide⟩ | exact pow_cond (by decide) (by decide) (by first | decide | omega) (by first | decide | omega) | exact wide_div (b := 2000) (by first | assumption | decide | omega) (by first | decide | omega) (by decide) (by decide))
local macro_rules | `(tactic| wtm_at "ev_side") => `(tactic| first
  | ((with_reducible apply rd_var); exact rfl)
  | ((with_reducible apply rd_ixL); (wtm_at "ev_sq"); exact rfl)
  | ((with_reducible apply rd_ixT); (wtm_at "ev_sq"); exact rfl)
  | ((with_reducible apply rd_eq); exact rfl)
  | ((with_reducible apply rd_ne); exact rfl)
  | ((with_reducible apply rd_setL); (wtm_at "ev_lk"); exact rfl)
  | ((with_reducible apply rd_gtup); (wtm_at "ev_sq"); exact rfl)
  | ((with_reducible apply rd_len); (wtm_at "ev_sq"))
  | ((with_reducible apply rd_lenT); (wtm_at "ev_sq"))
  | ((with_reducible apply rd_rg); (first | decide | omega); (first | decide | omega))
  | ((with_reducible apply rd_atL); (wtm_at "ev_sq"))
  | ((with_reducible apply rd_atT); (wtm_at "ev_sq"))
  | ((with_reducible apply rd_tyL); (wtm_at "ev_sq"))
  | ((with_reducible apply rd_cat); (wtm_at "ev_lk"); (wtm_at "ev_lk"); exact Nat.le_of_ble_eq_true rfl)
  | ((with_reducible apply rd_size); exact Nat.le_of_ble_eq_true rfl)
  | ((with_reducible apply rd_rI); wtm_at "ev_cond"))
local macro_rules | `(tactic| wtm_at "ev_rd") => `(tactic| repeat (first | wtm_at "ev_step" | wtm_at "ev_side"))
local macro_rules | `(tactic| wtm_at "ev_go") => `(tactic| ((try simp only [L2.start, List.map_cons, List.map_nil, List.length_cons, List.length_nil, Nat.reduceAdd, Nat.reduceSub, List.replicate_succ, List.replicate_zero, List.cons_append, List.nil_append]); wtm_at "ev_rd"; (try simp only [List.set_cons_zero, List.set_cons_succ, upd_upd])))
local macro_rules | `(tactic| wtm_at "ev_step") => `(tactic| with_reducible first | refine rd_par ?_ | refine rd_par2 ?_ | refine rd_forD ?_)
local macro_rules | `(tactic| wtm_at "ev_side") => `(tactic| ((with_reducible apply rd_enumL); (wtm_at "ev_sq")))
local macro_rules | `(tactic| wtm_at "ev_cond") => `(tactic| exact Num.mul (by assumption) (by assumption))
local macro_rules | `(tactic| wtm_at "ev_step") => `(tactic| with_reducible first | refine rd_fld ?_ | refine rd_sfld ?_ | refine rd_tmko ?_ | refine rd_meth0 ?_ | refine rd_make ?_ | refine rd_prop ?_ | refine rd_callK0 ?_)
theorem num_neg {i : Int} (h : Num i) : Num (-i) := by
  unfold Num at h ⊢
  rw [Int.natAbs_neg]
  exact h

def spMade (C : Addr) : Sp := fun vs H Q _ => ∃ (k l : Addr) (lo hi : Int) (R : List V) (rs : List R3), vs = [.ref k] ∧ H k = some (.tup [.int lo, .int hi, .ref l]) ∧ H l = some (.lst R) ∧ RlR H R rs ∧ R.length ≤ 1000 ∧ Num lo ∧ Num hi ∧ lo ≤ hi ∧ Fine rs ∧
  ∀ (a : Addr) (H' : Hp), Same H H' → H a = none → BookAt C H' a lo hi R rs → Q (.ref a) H'
/-- what the making of a book asks and gives, its numbers fine -/
theorem book_ok {C cD cR : Addr} {H : Hp} {Q : Addr → Hp → Prop} {E : XK} {c : Addr} {lo hi : Int} {R : List V} {rs : List R3} (hc : H c = some (.lst R)) (hR : RlR H R rs) (hle : R.length ≤ 1000) (nlo : Num lo) (nhi : Num hi) (lohi : lo ≤ hi) (fine : Fine rs)
    (q : ∀ (a : Addr) (H' : Hp), Same H H' → H a = none → BookAt C H' a lo hi R rs → Q a H') :
    ∀ x dx, H x = none → H dx = none → dx ≠ x → spBook C cD cR (.ref x :: ([.int lo, .int hi, .ref c] ++ [])) (upd (upd H dx (.own x)) x (.ins C dx [])) (fun v H2 => v = .non ∧ Q x H2) E := by
  intro x dx hx hdx ne
  have sN : Same H (upd (upd H dx (.own x)) x (.ins C dx [])) := (Same.new hdx).trans (Same.new (by rw [upd_ne (Ne.symm ne)]; exact hx))
  refine ⟨x, dx, c, lo, hi, R, rs, rfl, upd_same, sN _ _ hc, hR.mono sN, hle, nlo, nhi, fun h => absurd h (by omega), fun _ i d H' bad _ _ => ?_, fun _ _ H' fr bk => ⟨rfl, ?_⟩⟩
  · obtain ⟨r, e, b, _⟩ := bad
    rw [fine _ _ e] at b
    cases b
  · exact q x H' (fun b o z => fr b o (sN b o z) (ne_of_none z hx)) hx bk
section
variable {P : Program} {w : World} {K : PySem.W.Frag} {mg : Str → Option Value} {base : Heap} {fI cD cR cB fB fN cW cL : Addr}
theorem ok_made {f : Addr} {fd fdN : FuncData} (F : Fun K "_law_made" "_law_made" s_made f fd) (T : TxB K mg fI cD cR cB fB fN) (GN : FnOk P w K mg base (L2.CX P w) 4 fN fdN ["self", "low", "high", "rules"] (spBook cB cD cR)) (bN : Binds K fdN ["self", "low", "high", "rules"] []) : FnOk P w K mg base CX0 6 f fd ["kind"] (spMade cB) := by
  refine F.ok sc_made (fun vs H Q E h => ?_) (fun cdv A outer s H vs Q E hr h => ?_)
  · obtain ⟨k, l, lo, hi, R, rs, rfl, _⟩ := h
    rfl
  · obtain ⟨k, l, lo, hi, R, rs, rfl, hk, hl, hR, hle, nlo, nhi, lohi, fine, q⟩ := h
    refine ⟨_, (pss_one (ps_ret (pe_make T.mB2 GN (hr.mono (by decide)) (by rfl) T.gB bN .nil L2.passL (pa_cons (pe_ix ix_tup (pv 0) pe_int (fun _ _ => rfl)) (pa_cons (pe_ix ix_tup (pv 0) pe_int (fun _ _ => rfl)) (pa_cons (pe_callTy call_list_of (by rfl) T.b.n_list boot_list (pa_cons (pe_ix ix_tup (pv 0) pe_int (fun _ _ => rfl)) pa_nil)) pa_nil)))))), ?_⟩
    wtm_at "ev_go"
    intro c hc
    wtm_at "ev_go"
    have sC : Same H (upd H c (.lst R)) := Same.new hc
    exact book_ok upd_same (hR.mono sC) hle nlo nhi lohi fine (fun a H' s na bk => q a H' (sC.trans s) (sC.free na) bk)
end

def spHas (C : Addr) : Sp := fun vs H Q _ => ∃ (a : Addr) (lo hi : Int) (R : List V) (rs : List R3), vs = [.ref a] ∧ BookAt C H a lo hi R rs ∧ (NoConf ((1, lo, hi) :: rs) → Q (.bl true) H) ∧ (¬ NoConf ((1, lo, hi) :: rs) → Q (.bl false) H)
section
variable {P : Program} {w : World} {K : PySem.W.Frag} {mg : Str → Option Value} {base : Heap} {fI cD cR cB fB fN cW cL : Addr}
theorem ok_has {f : Addr} {fd : FuncData} (F : Fun K "has_rows" "Book.has_rows" s_Book_has_rows f fd) (T : TxB K mg fI cD cR cB fB fN) : FnOk P w K mg base CX0 1 f fd ["self"] (spHas cB) := by
  refine F.ok sc_Book_has_rows (fun vs H Q E h => ?_) (fun cdv A outer s H vs Q E hr h => ?_)
  · obtain ⟨a, lo, hi, R, rs, rfl, _⟩ := h
    rfl
  · obtain ⟨a, lo, hi, R, rs, rfl, ⟨dx, l, fs, v, ha, hl, l1, l2, l3, l4, cv, hR, l5⟩, q1, q2⟩ := h
    refine ⟨_, (pss_one (ps_ret (pe_cmpR op_isN (pe_fld (pv 0) rfl) pe_non (nomark _)))), ?_⟩
    wtm_at "ev_go"
    refine rd_fldA ha T.cls T.n4 l4 ?_
    wtm_at "ev_go"
    rcases cv with ⟨rfl, n⟩ | ⟨p, i, j, rfl, e, n⟩
    · exact ⟨trivial, q1 n⟩
    · exact ⟨trivial, q2 n.not⟩
end

def spCfl (C : Addr) : Sp := fun vs H Q _ => ∃ (a : Addr) (lo hi : Int) (R : List V) (rs : List R3), vs = [.ref a] ∧ BookAt C H a lo hi R rs ∧ ∀ v : V, ConfV ((1, lo, hi) :: rs) v H → Q v H
section
variable {P : Program} {w : World} {K : PySem.W.Frag} {mg : Str → Option Value} {base : Heap} {fI cD cR cB fB fN cW cL : Addr}
theorem ok_cfl {f : Addr} {fd : FuncData} (F : Fun K "conflict" "Book.conflict" s_Book_conflict f fd) (T : TxB K mg fI cD cR cB fB fN) : FnOk P w K mg base CX0 1 f fd ["self"] (spCfl cB) := by
  refine F.ok sc_Book_conflict (fun vs H Q E h => ?_) (fun cdv A outer s H vs Q E hr h => ?_)
  · obtain ⟨a, lo, hi, R, rs, rfl, _⟩ := h
    rfl
  · obtain ⟨a, lo, hi, R, rs, rfl, ⟨dx, l, fs, v, ha, hl, l1, l2, l3, l4, cv, hR, l5⟩, q⟩ := h
    refine ⟨_, (pss_one (ps_ret (pe_fld (pv 0) rfl))), ?_⟩
    wtm_at "ev_go"
    exact rd_fldA ha T.cls T.n4 l4 (q v cv)
end
end Ev

namespace Ev
open PySem PySem.Spec PyProof.Rows L2
local macro_rules | `(tactic| wtm_at "ev_ne") => `(tactic| first | assumption | exact Ne.symm (by assumption))
local macro_rules | `(tactic| wtm_at "ev_lk") => `(tactic| first | assumption | exact upd_same | (refine lk_new' (by assumption) ?_; wtm_at "ev_lk") | (refine lk_ne (by wtm_at "ev_ne") ?_; wtm_at "ev_lk") | (refine same_lk (by assumption) ?_; wtm_at "ev_lk"))
local macro_rules | `(tactic| wtm_at "ev_sm") => `(tactic| first | assumption | exact Same.refl _ | (refine same_new ?_ (by assumption); wtm_at "ev_sm") | (refine Same.trans ?_ (by assumption); wtm_at "ev_sm"))
local macro_rules | `(tactic| wtm_at "ev_no") => `(tactic| first | assumption | exact no_back (by assumption) | (refine no_new ?_ (by wtm_at "ev_ne"); wtm_at "ev_no"))
local macro_rules | `(tactic| wtm_at "ev_sq") => `(tactic| first | assumption | exact SqL.of (by wtm_at "ev_lk") | exact SqT.of (by wtm_at "ev_lk"))
local macro_rules | `(tactic| wtm_at "ev_step") => `(tactic| with_reducible first
  | refine rd_seq ?_ | refine rd_next ?_ | refine rd_ret ?_ | refine rd_retN ?_ | refine rd_if ?_ | refine rd_drop ?_ | refine rd_asg ?_ | refine rd_name ?_ | refine rd_gsub ?_ | refine rd_gnil ?_ | refine rd_gcons ?_
  | refine rd_c ?_ | refine rd_op ?_ | refine rd_un ?_ | refine rd_rI0 ?_ | refine rd_rU ?_ | refine rd_tup ?_ | refine rd_lst ?_ | refine rd_nil ?_ | refine rd_cons ?_ | refine rd_cb ?_ | refine rd_call ?_ | refine rd_sl ?_ | refine rd_no ?_ | refine rd_part ?_
  | refine rd_test ?_ | refine rd_tB ?_ | refine rd_not ?_ | refine rd_and ?_ | refine rd_or ?_ | refine rd_notV ?_ | refine rd_andV ?_ | refine rd_orV ?_ | refine rd_ifE ?_ | refine rd_bl ?_ | refine rd_ex ?_
  | refine rd_rng1 ?_ | refine rd_overL ?_ | refine rd_overT ?_ | refine rd_forA ?_ | refine rd_forB ?_ | refine rd_forC ?_ | refine rd_lcA ?_ | refine rd_lcB ?_ | refine rd_lcC ?_ | refine rd_bm ?_ | refine rd_mkv ?_ | refine rd_xv ?_
  | refine rd_T ?_ | refine rd_F ?_ | refine rd_True ?_ | refine rd_False ?_ | refine rd_int ?_ | refine rd_intB ?_ | refine rd_one ?_ | refine rd_two ?_)
local macro_rules | `(tactic| wtm_at "ev_cond") => `(tactic| first | assumption | exact (show (0 : Int) < _ by decide) | exact (show (0 : Int) < _ by omega) | exact Or.inl ⟨by decide, by decide⟩ | exact Or.inr ⟨by decide, by decide⟩ | exact pow_cond (by decide) (by decide) (by first | decide | omega) (by first | decide | omega) | exact wide_div (b := 2000) (by first | assumption | decide | omega) (by first | decide | omega) (by decide) (by decide))
local macro_rules | `(tactic| wtm_at "ev_side") => `(tactic| first
  | ((with_reducible apply rd_var); exact rfl)
  | ((with_reducible apply rd_ixL); (wtm_at "ev_sq"); exact rfl)
  | ((with_reducible apply rd_ixT); (wtm_at "ev_sq"); exact rfl)
  | ((with_reducible apply rd_eq); exact rfl)
  | ((with_reducible apply rd_ne); exact rfl)
  | ((with_reducible apply rd_setL); (wtm_at "ev_lk"); exact rfl)
  | ((with_reducible apply rd_gtup); (wtm_at "ev_sq"); exact rfl)
  | ((with_reducible apply rd_len); (wtm_at "ev_sq"))
  | ((with_reducible apply rd_lenT); (wtm_at "ev_sq"))
  | ((with_reducible apply rd_rg); (first | decide | omega); (first | decide | omega))
  | ((with_reducible apply rd_atL); (wtm_at "ev_sq"))
  | ((with_reducible apply rd_atT); (wtm_at "ev_sq"))
  | ((with_reducible apply rd_tyL); (wtm_at "ev_sq"))
  | ((with_reducible apply rd_cat); (wtm_at "ev_lk"); (wtm_at "ev_lk"); exact Nat.le_of_ble_eq_true rfl)
  | ((with_reducible apply rd_size); exact Nat.le_of_ble_eq_true rfl)
  | ((with_reducible apply rd_rI); wtm_at "ev_cond"))
local macro_rules | `(tactic| wtm_at "ev_rd") => `(tactic| repeat (first | wtm_at "ev_step" | wtm_at "ev_side"))
local macro_rules | `(tactic| wtm_at "ev_go") => `(tactic| ((try simp only [L2.start, List.map_cons, List.map_nil, List.length_cons, List.length_nil, Nat.reduceAdd, Nat.reduceSub, List.replicate_succ, List.replicate_zero, List.cons_append, List.nil_append]); wtm_at "ev_rd"; (try simp only [List.set_cons_zero, List.set_cons_succ, upd_upd])))
local macro_rules | `(tactic| wtm_at "ev_step") => `(tactic| with_reducible first | refine rd_par ?_ | refine rd_par2 ?_ | refine rd_forD ?_)
local macro_rules | `(tactic| wtm_at "ev_side") => `(tactic| ((with_reducible apply rd_enumL); (wtm_at "ev_sq")))
local macro_rules | `(tactic| wtm_at "ev_cond") => `(tactic| exact Num.mul (by assumption) (by assumption))
local macro_rules | `(tactic| wtm_at "ev_step") => `(tactic| with_reducible first | refine rd_fld ?_ | refine rd_sfld ?_ | refine rd_tmko ?_ | refine rd_meth0 ?_ | refine rd_make ?_ | refine rd_prop ?_ | refine rd_callK0 ?_)

theorem hun65 {k : Nat} {A : Around} (r : Room k A) : A.units + 65 < cLine := by
  have := r.un
  omega
section
variable {K : PySem.W.Frag} {σ : L2.St} {H : Hp} {D : Ends}
theorem rd_chain {r r' : R2} {ta tb tc : TE} {Q : VK} (h : ta σ H fun x H1 => tb σ H1 fun y H2 => r x y H2 fun z H3 => ∃ k, z = .bl k ∧ (if k = true then tc σ H3 fun w' H4 => r' y w' H4 Q else Q (.bl false) H3)) : tChain r r' ta tb tc σ H Q := h
theorem rd_rng2 {ta : TA} {R : It → Hp → Prop} (h : ta σ H fun vs H1 => ∃ i j : Int, vs = [.int i, .int j] ∧ (-(2 ^ 62) ≤ i ∧ i < 2 ^ 62 ∧ -(2 ^ 62) ≤ j ∧ j < 2 ^ 62) ∧ R (Itr i (j - i).toNat) H1) : iRng2 ta σ H R := h
theorem rd_forF {ta : TA} {g : TG} {tb : TS} (h : iRng2 ta σ H fun J H1 => tFor (fun _ H' R => R J H') g tb D σ H1) : tFor (iRng2 ta) g tb D σ H := h
theorem rd_lcD {ta : TA} {g : TG} {tt : TT} {te : TE} {vs : List Nat} {Q : VK} (h : iRng2 ta σ H fun J H1 => tLc (fun _ H' R => R J H') g tt te vs σ H1 Q) : tLc (iRng2 ta) g tt te vs σ H Q := h
theorem rd_rg2 {i j : Int} {A : Prop} (h1 : -1000000 ≤ i ∧ i ≤ 1000000) (h2 : -1000000 ≤ j ∧ j ≤ 1000000) (q : A) : (-(2 ^ 62) ≤ i ∧ i < 2 ^ 62 ∧ -(2 ^ 62) ≤ j ∧ j < 2 ^ 62) ∧ A := ⟨by omega, q⟩
theorem rd_rgN {i : Int} {A : Prop} (h1 : -1000000 ≤ i) (h2 : i ≤ 1000000) (q : A) : -(2 ^ 62) ≤ i ∧ i < 2 ^ 62 ∧ A := ⟨by omega, by omega, q⟩
end
local macro_rules | `(tactic| wtm_at "ev_step") => `(tactic| with_reducible first | refine rd_chain ?_ | refine rd_rng2 ?_ | refine rd_forF ?_ | refine rd_lcD ?_)
theorem cutV_mid {xs : List V} {s w : Nat} (h : s + w ≤ xs.length) : cutV xs (some (s : Int)) (some (((s + w : Nat)) : Int)) = (xs.drop s).take w := by
  unfold cutV
  rw [HT.sIx_nat, HT.sIx_nat, Nat.min_eq_left (by omega), Nat.min_eq_left (by omega)]
  congr 1
  omega
theorem cutV_tail {xs : List V} {k : Nat} : cutV xs (some (k : Int)) none = xs.drop k := by
  unfold cutV
  rw [HT.sIx_nat, HT.sIx_none]
  by_cases h : k ≤ xs.length
  · rw [Nat.min_eq_left h]
    refine List.take_of_length_le ?_
    rw [List.length_drop]
    exact Nat.le_refl _
  · rw [Nat.min_eq_right (by omega), List.drop_of_length_le (Nat.le_refl _), List.drop_of_length_le (by omega), List.take_nil]
theorem cutV_init {xs : List V} : cutV xs none (some (-1)) = xs.dropLast := by
  unfold cutV
  rw [HT.sIx_none]
  have : HT.sIx xs.length xs.length (some (-1)) = xs.length - 1 := by
    show (if (-1 : Int) < 0 then ((-1 : Int) + (xs.length : Int)).toNat else min (-1 : Int).toNat xs.length) = _
    rw [if_pos (by decide)]
    omega
  rw [this, List.drop_zero, Nat.sub_zero, List.dropLast_eq_take]
/-- the kind at k: a low, a high and a list of rules -/
def KindAt (H : Hp) (k : Addr) (lo hi : Int) (rs : List R3) : Prop := ∃ (l : Addr) (R : List V), H k = some (.tup [.int lo, .int hi, .ref l]) ∧ H l = some (.lst R) ∧ RlR H R rs ∧ R.length ≤ 100 ∧ lo.natAbs ≤ 1000 ∧ hi.natAbs ≤ 1000
theorem KindAt.mono {H H' : Hp} {k : Addr} {lo hi : Int} {rs : List R3} (h : KindAt H k lo hi rs) (s : Same H H') : KindAt H' k lo hi rs := by
  obtain ⟨l, R, h1, h2, h3, h4⟩ := h
  exact ⟨l, R, s _ _ h1, s _ _ h2, h3.mono s, h4⟩
def spLB : Sp := fun vs H Q _ => ∃ (k : Addr) (lo hi : Int) (rs : List R3), vs = [.ref k] ∧ KindAt H k lo hi rs ∧ ∀ (p : Addr) (L' : List V) (H' : Hp), Same H H' → H p = none → H' p = some (.lst L') → RlR H' L' ((1, lo, hi) :: rs) → Q (.ref p) H'
def spDue (K : PySem.W.Frag) : Sp := fun vs H Q _ => ∃ (k : Addr) (lo hi : Int) (rs : List R3), vs = [.ref k] ∧ KindAt H k lo hi rs ∧ ∀ (v : V) (H' : Hp), Same H H' → ConfV ((1, lo, hi) :: rs) v H' → Q v H'
open Classical in
noncomputable def letB (B : List R3) (xs : List Int) : Bool := decide (LetP B xs)
theorem letB_t {B : List R3} {xs : List Int} (h : LetP B xs) : letB B xs = true := by unfold letB; exact @decide_eq_true _ (Classical.propDecidable _) h
theorem letB_f {B : List R3} {xs : List Int} (h : ¬ LetP B xs) : letB B xs = false := by unfold letB; exact @decide_eq_false _ (Classical.propDecidable _) h
def spIL : Sp := fun vs H Q _ => ∃ (k a : Addr) (lo hi : Int) (rs : List R3) (xs : List Int), vs = [.ref k, .ref a] ∧ KindAt H k lo hi rs ∧ Wide1 ((1, lo, hi) :: rs) ∧ (∀ r ∈ rs, r.1 ≤ 1000) ∧ H a = some (.lst (xs.map V.int)) ∧ xs.length ≤ 1000 ∧ ∀ H', Same H H' → Q (.bl (letB ((1, lo, hi) :: rs) xs)) H'
section
variable {P : Program} {w : World} {K : PySem.W.Frag} {mg : Str → Option Value} {base : Heap}
theorem ok_lbounds {f : Addr} {fd : FuncData} (F : Fun K "_law_bounds" "_law_bounds" s_bounds f fd) (T : Blt mg) : FnOk P w K mg base CX0 1 f fd ["kind"] spLB := by
  refine F.ok sc_bounds (fun vs H Q E h => ?_) (fun cdv A outer s H vs Q E hr h => ?_)
  · obtain ⟨k, lo, hi, rs, rfl, _⟩ := h
    rfl
  · obtain ⟨k, lo, hi, rs, rfl, ⟨l, R, hk, hl, hR, hle, c1, c2⟩, q⟩ := h
    refine ⟨_, (pss_one (ps_ret (pe_op op_cat (pe_lst (pa_cons (pe_tup (pa_cons pe_int (pa_cons (pe_ix ix_tup (pv 0) pe_int (fun _ _ => rfl)) (pa_cons (pe_ix ix_tup (pv 0) pe_int (fun _ _ => rfl)) pa_nil)))) pa_nil)) (pe_callTy call_list_of (by rfl) T.n_list boot_list (pa_cons (pe_ix ix_tup (pv 0) pe_int (fun _ _ => rfl)) pa_nil))))), ?_⟩
    wtm_at "ev_go"
    intro t ht
    wtm_at "ev_go"
    intro b hb
    have s1 := Same.new (o := .tup [V.int 1, .int lo, .int hi]) ht
    have s2 := s1.trans (Same.new (o := .lst [V.ref t]) hb)
    have hk2 := s2 _ _ hk
    have hl2 := s2 _ _ hl
    have nt : t ≠ b := ne_of_none upd_same hb
    wtm_at "ev_go"
    intro c hc
    wtm_at "ev_go"
    have s3 := s2.trans (Same.new (o := .lst R) hc)
    have nb : b ≠ c := ne_of_none upd_same hc
    have ntc : t ≠ c := ne_of_none (lk_ne nt upd_same) hc
    refine rd_cat (lk_ne nb upd_same) upd_same (by rw [List.length_cons, List.length_nil]; omega) (fun p hp => ?_)
    have s4 := s3.trans (Same.new (o := .lst ([V.ref t] ++ R)) hp)
    have ntp : t ≠ p := ne_of_none (lk_ne ntc (lk_ne nt upd_same)) hp
    exact q p _ _ s4 (s3.free hp) upd_same ((hR.mono s4).cons (lk_ne ntp (lk_ne ntc (lk_ne nt upd_same))) (num_of (by decide)) (num_of (by omega)) (num_of (by omega)))
theorem ok_due {f : Addr} {fd : FuncData} (F : Fun K "_law_due" "_law_due" s_due f fd) (T : Blt mg) (GLB : CalN P w K mg base 1 "_law_bounds" spLB) : FnOk P w K mg base CX0 2 f fd ["kind"] (spDue K) := by
  refine F.ok sc_due (fun vs H Q E h => ?_) (fun cdv A outer s H vs Q E hr h => ?_)
  · obtain ⟨k, lo, hi, rs, rfl, _⟩ := h
    rfl
  · obtain ⟨k, lo, hi, rs, rfl, ka, q⟩ := h
    refine ⟨_, (pss_cons (ps_set (i := 1) sc_due.nd rfl (Or.inl rfl) (pe_cN GLB hr (by decide) (by rfl) (pa_cons (pv 0) pa_nil)))
      (pss_cons (ps_for PassesOwn.never rfl (pi_enum (by rfl) T.n_enumerate (pa_cons (pv 1) pa_nil)) (pg_tup rfl (pgs_cons (pg_name (i := 2) sc_due.nd rfl (Or.inl rfl)) (pgs_cons (pg_name (i := 3) sc_due.nd rfl (Or.inl rfl)) pgs_nil))) 
        (pss_one (ps_for PassesOwn.never rfl (pi_enum (by rfl) T.n_enumerate (pa_cons (pv 1) pa_nil)) (pg_tup rfl (pgs_cons (pg_name (i := 4) sc_due.nd rfl (Or.inl rfl)) (pgs_cons (pg_name (i := 5) sc_due.nd rfl (Or.inl rfl)) pgs_nil))) 
          (pss_one (ps_if (pt_cmpR op_gt (pe_op op_mulW (pe_ix ix_tup (pv 3) pe_int (fun _ _ => rfl)) (pe_ix ix_tup (pv 5) pe_int (fun _ _ => rfl))) (pe_op op_mulW (pe_ix ix_tup (pv 5) pe_int (fun _ _ => rfl)) (pe_ix ix_tup (pv 3) pe_int (fun _ _ => rfl))) (nomark _)) 
            (pss_one (ps_ret (pe_tup (pa_cons (pv 2) (pa_cons (pv 4) pa_nil))))) pss_nil)))))
      (pss_one (ps_ret pe_non)))), ?_⟩
    wtm_at "ev_go"
    refine ⟨k, lo, hi, rs, rfl, ka, fun p B H1 s1 _ hp hB => ?_⟩
    generalize (1, lo, hi) :: rs = Bs at hB q
    wtm_at "ev_go"
    refine rd_forE (fun i σ' H' => ∃ (x2 x3 x4 x5 : Option V), σ' = [some (.ref k), some (.ref p), x2, x3, x4, x5] ∧ Same H1 H' ∧ ∀ (j : Nat) r, j < i → Bs[j]? = some r → ∀ s ∈ Bs, r.2.1 * s.1 ≤ s.2.2 * r.1) ⟨_, _, _, _, rfl, Same.refl _, fun j _ hj => absurd hj (Nat.not_lt_zero _)⟩ (fun i σ' H' _ h => by obtain ⟨_, _, _, _, _, z, _⟩ := h; exact SqL.of (z _ _ hp)) ?_ ?_
    · rintro i v σ' H' c hx ⟨x2, x3, x4, x5, rfl, sm, al⟩ hc
      have sm2 := sm.trans (Same.new (o := .tup [.int i, v]) hc)
      obtain ⟨a, r, rfl, er, ha, nw, nl, nm⟩ := (hB.mono sm2).2 i v hx
      have hp2 := sm2 _ _ hp
      wtm_at "ev_go"
      refine rd_forE (fun i' σ' H'' => ∃ (x4 x5 : Option V), σ' = [some (.ref k), some (.ref p), some (.int i), some (.ref a), x4, x5] ∧ Same (upd H' c (.tup [.int i, .ref a])) H'' ∧ ∀ (j : Nat) s, j < i' → Bs[j]? = some s → r.2.1 * s.1 ≤ s.2.2 * r.1) ⟨_, _, rfl, Same.refl _, fun j _ hj => absurd hj (Nat.not_lt_zero _)⟩ (fun i σ' H' _ h => by obtain ⟨_, _, _, z, _⟩ := h; exact SqL.of (z _ _ hp2)) ?_ ?_
      · rintro i' v' σ' H'' c' hx' ⟨x4, x5, rfl, sm', al'⟩ hc'
        have sm3 := sm'.trans (Same.new (o := .tup [.int i', v']) hc')
        have sm4 := sm2.trans sm3
        obtain ⟨a', s, rfl, es, ha', nw', nl', nm'⟩ := (hB.mono sm4).2 i' v' hx'
        have ha3 := sm3 _ _ ha
        wtm_at "ev_go"
        refine rd_ite (fun cc => ?_) (fun cc => ?_)
        · wtm_at "ev_go"
          intro t ht
          exact q _ _ ((s1.trans sm4).trans (Same.new ht)) (.inr ⟨t, i, i', rfl, upd_same, r, s, er, es, cc, al, al'⟩)
        · wtm_at "ev_go"
          refine ⟨_, _, rfl, sm3, fun j s' hj e => ?_⟩
          rcases Nat.lt_succ_iff_lt_or_eq.mp hj with h | rfl
          · exact al' j s' h e
          · rw [es] at e
            cases e
            omega
      · rintro σ' H'' ⟨x4, x5, rfl, sm', al'⟩
        refine ⟨_, _, _, _, rfl, sm2.trans sm', fun j r' hj e => ?_⟩
        rcases Nat.lt_succ_iff_lt_or_eq.mp hj with h | rfl
        · exact al j r' h e
        · rw [er] at e
          cases e
          intro s hs
          obtain ⟨j', hj'⟩ := List.getElem?_of_mem hs
          exact al' j' s (by rw [hB.1]; exact (List.getElem?_eq_some_iff.mp hj').1) hj'
    · rintro σ' H' ⟨x2, x3, x4, x5, rfl, sm, al⟩
      wtm_at "ev_go"
      refine q _ _ (s1.trans sm) (.inl ⟨rfl, fun r hr => ?_⟩)
      obtain ⟨j, hj⟩ := List.getElem?_of_mem hr
      exact al j r (by rw [hB.1]; exact (List.getElem?_eq_some_iff.mp hj).1) hj
theorem ok_is_let {f : Addr} {fd : FuncData} (F : Fun K "_law_is_let" "_law_is_let" s_is_let f fd) (T : Blt mg) (GLB : CalN P w K mg base 1 "_law_bounds" spLB) : FnOk P w K mg base CX0 2 f fd ["kind", "line"] spIL := by
  refine F.ok sc_is_let (fun vs H Q E h => ?_) (fun cdv A outer s H vs Q E hr h => ?_)
  · obtain ⟨k, a, lo, hi, rs, xs, rfl, _⟩ := h
    rfl
  · obtain ⟨k, a, lo, hi, rs, xs, rfl, ka, wide, w1000, ha, hle, q⟩ := h
    refine ⟨_, (pss_cons (ps_for PassesOwn.never rfl (pi_list (pe_cN GLB hr (by decide) (by rfl) (pa_cons (pv 0) pa_nil))) (pg_tup rfl (pgs_cons (pg_name (i := 2) sc_is_let.nd rfl (Or.inl rfl)) (pgs_cons (pg_name (i := 3) sc_is_let.nd rfl (Or.inl rfl)) (pgs_cons (pg_name (i := 4) sc_is_let.nd rfl (Or.inl rfl)) pgs_nil)))) 
        (pss_one (ps_for PassesOwn.never rfl (pi_range1 (by rfl) T.n_range (pa_cons (pe_op op_add (pe_op op_sub (pe_callB call_len_seq (by rfl) T.n_len PySem.boot_len (pa_cons (pv 1) pa_nil)) (pv 2)) pe_int) pa_nil)) (pg_name (i := 5) sc_is_let.nd rfl (Or.inl rfl)) 
          (pss_one (ps_if (pt_not (pt_chain op_le op_le (pv 3) (pe_callB (cr_sum rfl) (by rfl) T.n_sum (by decide +kernel) (pa_cons (pe_slice sl_list (pv 1) (po_some (pv 5)) (po_some (pe_op op_add (pv 5) (pv 2)))) pa_nil)) (pv 4))) 
            (pss_one (ps_ret pe_bl)) pss_nil)))))
      (pss_one (ps_ret pe_bl))), ?_⟩
    wtm_at "ev_go"
    refine ⟨k, lo, hi, rs, rfl, ka, fun p B H1 s1 _ hp hB => ?_⟩
    have wB : ∀ r ∈ (1, lo, hi) :: rs, 1 ≤ r.1 ∧ r.1 ≤ 1000 := fun r hr => ⟨wide r hr, by
      rcases List.mem_cons.mp hr with rfl | hr
      · exact (show (1 : Int) ≤ 1000 by decide)
      · exact w1000 r hr⟩
    generalize (1, lo, hi) :: rs = Bs at hB q wB
    wtm_at "ev_go"
    refine rd_forL (xs := B) (fun i σ' H' => ∃ (x2 x3 x4 x5 : Option V), σ' = [some (.ref k), some (.ref a), x2, x3, x4, x5] ∧ Same H1 H' ∧ ∀ (j : Nat) r, j < i → Bs[j]? = some r → ∀ s : Nat, s + r.1.toNat ≤ xs.length → r.2.1 ≤ winsum xs s r.1.toNat ∧ winsum xs s r.1.toNat ≤ r.2.2) ⟨_, _, _, _, rfl, Same.refl _, fun j _ hj => absurd hj (Nat.not_lt_zero _)⟩ (fun i σ' H' _ h => by obtain ⟨_, _, _, _, _, z, _⟩ := h; exact SqL.of (z _ _ hp)) ?_ ?_
    · rintro i v σ' H' hx ⟨x2, x3, x4, x5, rfl, sm, al⟩
      obtain ⟨b, r, rfl, er, hb, nw, nl, nm⟩ := (hB.mono sm).2 i v hx
      obtain ⟨r1, r2⟩ := wB r (List.mem_of_getElem? er)
      have ha' : H' a = some (.lst (xs.map V.int)) := sm _ _ (s1 _ _ ha)
      wtm_at "ev_go"
      rw [List.length_map]
      refine rd_rgN (by omega) (by omega) ?_
      wtm_at "ev_go"
      obtain ⟨wn, hw⟩ : ∃ wn : Nat, r.1 = (wn : Int) := ⟨r.1.toNat, by omega⟩
      have tw : r.1.toNat = wn := by omega
      rw [hw]
      refine rd_forR (fun j σ' H'' => ∃ (x5 : Option V), σ' = [some (.ref k), some (.ref a), some (.int (wn : Int)), some (.int r.2.1), some (.int r.2.2), x5] ∧ Same H' H'' ∧ ∀ s : Nat, s < j → s + wn ≤ xs.length → r.2.1 ≤ winsum xs s wn ∧ winsum xs s wn ≤ r.2.2) ⟨_, rfl, Same.refl _, fun s hs => absurd hs (Nat.not_lt_zero _)⟩ ?_ ?_
      · rintro j σ' H'' hj ⟨x5, rfl, sm', al'⟩
        have hjl : j + wn ≤ xs.length := by omega
        have ha2 := sm' _ _ ha'
        have ej : (0 : Int) + (j : Int) = (j : Int) := by omega
        rw [ej]
        wtm_at "ev_go"
        refine rd_slL (SqL.of ha2) (fun c hc => ?_)
        have ec : ((j : Int) + (wn : Int)) = ((j + wn : Nat) : Int) := by omega
        rw [ec, cutV_mid (by rw [List.length_map]; exact hjl)]
        rw [← List.map_drop, ← List.map_take]
        wtm_at "ev_go"
        refine ⟨c, (xs.drop j).take wn, rfl, SqL.of upd_same, ?_⟩
        have sc := sm'.trans (Same.new (o := .lst (((xs.drop j).take wn).map V.int)) hc)
        have ew : ((xs.drop j).take wn).sum = winsum xs j wn := rfl
        rw [ew]
        wtm_at "ev_go"
        have bad : ¬ (r.2.1 ≤ winsum xs j wn ∧ winsum xs j wn ≤ r.2.2) → ∀ H3, Same H H3 → Q (.bl false) H3 := fun nb H3 s3 => by
          have : ¬ LetP Bs xs := fun hl => nb (by have := hl r (List.mem_of_getElem? er) j (by rw [tw]; exact hjl); rw [tw] at this; exact this)
          have z := q H3 s3
          rw [letB_f this] at z
          exact z
        refine rd_ite (fun c1 => ?_) (fun c1 => ?_)
        · wtm_at "ev_go"
          refine rd_iteN (fun c2 => ?_) (fun c2 => ?_)
          · wtm_at "ev_go"
            exact bad (fun z => c2 z.2) _ ((s1.trans sm).trans sc)
          · wtm_at "ev_go"
            refine ⟨_, rfl, sc, fun s hs hl => ?_⟩
            rcases Nat.lt_succ_iff_lt_or_eq.mp hs with h | rfl
            · exact al' s h hl
            · exact ⟨c1, c2⟩
        · wtm_at "ev_go"
          exact bad (fun z => c1 z.1) _ ((s1.trans sm).trans sc)
      · rintro σ' H'' ⟨x5, rfl, sm', al'⟩
        refine ⟨_, _, _, _, rfl, sm.trans sm', fun j r' hj e => ?_⟩
        rcases Nat.lt_succ_iff_lt_or_eq.mp hj with h | rfl
        · exact al j r' h e
        · rw [er] at e
          cases e
          intro s hs
          rw [tw] at hs ⊢
          exact al' s (by omega) hs
    · rintro σ' H' ⟨x2, x3, x4, x5, rfl, sm, al⟩
      wtm_at "ev_go"
      have : LetP Bs xs := fun r hr => by
        obtain ⟨j, hj⟩ := List.getElem?_of_mem hr
        exact al j r (by rw [hB.1]; exact (List.getElem?_eq_some_iff.mp hj).1) hj
      have z := q _ (s1.trans sm)
      rw [letB_t this] at z
      exact z
end
end Ev

namespace Ev
open PySem PySem.Spec PyProof.Rows L2
local macro_rules | `(tactic| wtm_at "ev_ne") => `(tactic| first | assumption | exact Ne.symm (by assumption))
local macro_rules | `(tactic| wtm_at "ev_lk") => `(tactic| first | assumption | exact upd_same | (refine lk_new' (by assumption) ?_; wtm_at "ev_lk") | (refine lk_ne (by wtm_at "ev_ne") ?_; wtm_at "ev_lk") | (refine same_lk (by assumption) ?_; wtm_at "ev_lk"))
local macro_rules | `(tactic| wtm_at "ev_sm") => `(tactic| first | assumption | exact Same.refl _ | (refine same_new ?_ (by assumption); wtm_at "ev_sm") | (refine Same.trans ?_ (by assumption); wtm_at "ev_sm"))
local macro_rules | `(tactic| wtm_at "ev_no") => `(tactic| first | assumption | exact no_back (by assumption) | (refine no_new ?_ (by wtm_at "ev_ne"); wtm_at "ev_no"))
local macro_rules | `(tactic| wtm_at "ev_sq") => `(tactic| first | assumption | exact SqL.of (by wtm_at "ev_lk") | exact SqT.of (by wtm_at "ev_lk"))
local macro_rules | `(tactic| wtm_at "ev_step") => `(tactic| with_reducible first
  | refine rd_seq ?_ | refine rd_next ?_ | refine rd_ret ?_ | refine rd_retN ?_ | refine rd_if ?_ | refine rd_drop ?_ | refine rd_asg ?_ | refine rd_name ?_ | refine rd_gsub ?_ | refine rd_gnil ?_ | refine rd_gcons ?_
  | refine rd_c ?_ | refine rd_op ?_ | refine rd_un ?_ | refine rd_rI0 ?_ | refine rd_rU ?_ | refine rd_tup ?_ | refine rd_lst ?_ | refine rd_nil ?_ | refine rd_cons ?_ | refine rd_cb ?_ | refine rd_call ?_ | refine rd_sl ?_ | refine rd_no ?_ | refine rd_part ?_
  | refine rd_test ?_ | refine rd_tB ?_ | refine rd_not ?_ | refine rd_and ?_ | refine rd_or ?_ | refine rd_notV ?_ | refine rd_andV ?_ | refine rd_orV ?_ | refine rd_ifE ?_ | refine rd_bl ?_ | refine rd_ex ?_
  | refine rd_rng1 ?_ | refine rd_overL ?_ | refine rd_overT ?_ | refine rd_forA ?_ | refine rd_forB ?_ | refine rd_forC ?_ | refine rd_lcA ?_ | refine rd_lcB ?_ | refine rd_lcC ?_ | refine rd_bm ?_ | refine rd_mkv ?_ | refine rd_xv ?_
  | refine rd_T ?_ | refine rd_F ?_ | refine rd_True ?_ | refine rd_False ?_ | refine rd_int ?_ | refine rd_intB ?_ | refine rd_one ?_ | refine rd_two ?_)
local macro_rules | `(tactic| wtm_at "ev_cond") => `(tactic| first | assumption | exact (show (0 : Int) < _ by decide) | exact (show (0 : Int) < _ by omega) | exact Or.inl ⟨by decide, by decide⟩ | exact Or.inr ⟨by decide, by decide⟩ | exact pow_cond (by decide) (by decide) (by first | decide | omega) (by first | decide | omega) | exact wide_div (b := 2000) (by first | assumption | decide | omega) (by first | decide | omega) (by decide) (by decide))
local macro_rules | `(tactic| wtm_at "ev_side") => `(tactic| first
  | ((with_reducible apply rd_var); exact rfl)
  | ((with_reducible apply rd_ixL); (wtm_at "ev_sq"); exact rfl)
  | ((with_reducible apply rd_ixT); (wtm_at "ev_sq"); exact rfl)
  | ((with_reducible apply rd_eq); exact rfl)
  | ((with_reducible apply rd_ne); exact rfl)
  | ((with_reducible apply rd_setL); (wtm_at "ev_lk"); exact rfl)
  | ((with_reducible apply rd_gtup); (wtm_at "ev_sq"); exact rfl)
  | ((with_reducible apply rd_len); (wtm_at "ev_sq"))
  | ((with_reducible apply rd_lenT); (wtm_at "ev_sq"))
  | ((with_reducible apply rd_rg); (first | decide | omega); (first | decide | omega))
  | ((with_reducible apply rd_atL); (wtm_at "ev_sq"))
  | ((with_reducible apply rd_atT); (wtm_at "ev_sq"))
  | ((with_reducible apply rd_tyL); (wtm_at "ev_sq"))
  | ((with_reducible apply rd_cat); (wtm_at "ev_lk"); (wtm_at "ev_lk"); exact Nat.le_of_ble_eq_true rfl)
  | ((with_reducible apply rd_size); exact Nat.le_of_ble_eq_true rfl)
  | ((with_reducible apply rd_rI); wtm_at "ev_cond"))
local macro_rules | `(tactic| wtm_at "ev_rd") => `(tactic| repeat (first | wtm_at "ev_step" | wtm_at "ev_side"))
local macro_rules | `(tactic| wtm_at "ev_go") => `(tactic| ((try simp only [L2.start, List.map_cons, List.map_nil, List.length_cons, List.length_nil, Nat.reduceAdd, Nat.reduceSub, List.replicate_succ, List.replicate_zero, List.cons_append, List.nil_append]); wtm_at "ev_rd"; (try simp only [List.set_cons_zero, List.set_cons_succ, upd_upd])))
local macro_rules | `(tactic| wtm_at "ev_step") => `(tactic| with_reducible first | refine rd_par ?_ | refine rd_par2 ?_ | refine rd_forD ?_)
local macro_rules | `(tactic| wtm_at "ev_side") => `(tactic| ((with_reducible apply rd_enumL); (wtm_at "ev_sq")))
local macro_rules | `(tactic| wtm_at "ev_cond") => `(tactic| exact Num.mul (by assumption) (by assumption))
local macro_rules | `(tactic| wtm_at "ev_step") => `(tactic| with_reducible first | refine rd_fld ?_ | refine rd_sfld ?_ | refine rd_tmko ?_ | refine rd_meth0 ?_ | refine rd_make ?_ | refine rd_prop ?_ | refine rd_callK0 ?_)

local macro_rules | `(tactic| wtm_at "ev_step") => `(tactic| with_reducible first | refine rd_chain ?_ | refine rd_rng2 ?_ | refine rd_forF ?_ | refine rd_lcD ?_)
/-! ### lists of lists of whole numbers -/
def linD (xs : List Int) : PyData := .list (xs.map .int)
def Lns (H : Hp) (L : List V) (F : List (List Int)) : Prop := L.length = F.length ∧ ∀ (i : Nat) (v : V), L[i]? = some v → ∃ (a : Addr) (xs : List Int), v = .ref a ∧ F[i]? = some xs ∧ H a = some (.lst (xs.map V.int))
theorem Lns.mono {H H' : Hp} {L : List V} {F : List (List Int)} (h : Lns H L F) (s : Same H H') : Lns H' L F := ⟨h.1, fun i v e => by obtain ⟨a, xs, h1, h2, h3⟩ := h.2 i v e; exact ⟨a, xs, h1, h2, s _ _ h3⟩⟩
theorem Lns.nil {H : Hp} : Lns H [] [] := ⟨rfl, fun i v e => by simp at e⟩
theorem Lns.append {H : Hp} {L M : List V} {F G : List (List Int)} (h : Lns H L F) (g : Lns H M G) : Lns H (L ++ M) (F ++ G) := by
  refine ⟨by rw [List.length_append, List.length_append, h.1, g.1], fun i v e => ?_⟩
  rw [List.getElem?_append] at e
  by_cases c : i < L.length
  · rw [if_pos c] at e
    obtain ⟨a, xs, h1, h2, h3⟩ := h.2 i v e
    exact ⟨a, xs, h1, by rw [List.getElem?_append, if_pos (by rw [← h.1]; exact c)]; exact h2, h3⟩
  · rw [if_neg c] at e
    obtain ⟨a, xs, h1, h2, h3⟩ := g.2 _ v e
    exact ⟨a, xs, h1, by rw [List.getElem?_append, if_neg (by rw [← h.1]; exact c), ← h.1]; exact h2, h3⟩
theorem Lns.one {H : Hp} {a : Addr} {xs : List Int} (h : H a = some (.lst (xs.map V.int))) : Lns H [.ref a] [xs] := ⟨rfl, fun i v e => by
  cases i with
  | zero => cases e; exact ⟨a, xs, rfl, rfl, h⟩
  | succ i => simp at e⟩
theorem Lns.put {H : Hp} {L : List V} {F : List (List Int)} {p : Addr} {o : HO} (h : Lns H L F) (hp : ∀ v ∈ L, v ≠ .ref p) : Lns (upd H p o) L F := ⟨h.1, fun i v e => by
  obtain ⟨a, xs, rfl, h2, h3⟩ := h.2 i v e
  exact ⟨a, xs, rfl, h2, lk_ne (fun z => hp _ (List.mem_of_getElem? e) (by rw [z])) h3⟩⟩
theorem Lns.tail {H : Hp} {v : V} {L : List V} {x : List Int} {F : List (List Int)} (h : Lns H (v :: L) (x :: F)) : Lns H L F := ⟨by have := h.1; simpa using this, fun i w e => by
  obtain ⟨a, xs, h1, h2, h3⟩ := h.2 (i + 1) w e
  exact ⟨a, xs, h1, h2, h3⟩⟩
theorem ints_all {K : PySem.W.Frag} {H : Hp} : ∀ xs : List Int, DpAll K H (xs.map V.int) (xs.map PyData.int)
  | [] => .nil
  | x :: xs => .cons (.int x) (ints_all xs)
theorem Lns.all {K : PySem.W.Frag} {H : Hp} : ∀ {L : List V} {F : List (List Int)}, Lns H L F → DpAll K H L (F.map linD)
  | [], [], _ => .nil
  | [], _ :: _, h => by cases h.1
  | _ :: _, [], h => by cases h.1
  | v :: L, x :: F, h => by
    obtain ⟨a, xs, rfl, e, ha⟩ := h.2 0 v rfl
    cases e
    exact .cons (.lst (SqL.of ha) (ints_all x)) (Lns.all h.tail)
theorem int_all : ∀ xs : List Int, PyData.canLayAll0 (xs.map PyData.int) = true ∧ PyData.depthAll (xs.map PyData.int) ≤ 0
  | [] => ⟨by simp only [List.map_nil, PyData.canLayAll0], by simp [PyData.depthAll]⟩
  | x :: xs => by
    obtain ⟨a, b⟩ := int_all xs
    have c : (PyData.int x).canLay0 = true := by simp only [PyData.canLay0]
    have d : (PyData.int x).depth = 0 := by simp only [PyData.depth]
    exact ⟨by simp only [List.map_cons, PyData.canLayAll0, c, a, Bool.and_self], by simp only [List.map_cons, PyData.depthAll, d]; omega⟩
theorem lin_ok (xs : List Int) : (linD xs).canLay0 = true ∧ (linD xs).depth ≤ 1 := by
  obtain ⟨a, b⟩ := int_all xs
  exact ⟨by unfold linD; simp only [PyData.canLay0]; exact a, by unfold linD; simp only [PyData.depth]; omega⟩
theorem lins_all : ∀ F : List (List Int), PyData.canLayAll0 (F.map linD) = true ∧ PyData.depthAll (F.map linD) ≤ 1
  | [] => ⟨by simp only [List.map_nil, PyData.canLayAll0], by simp [PyData.depthAll]⟩
  | x :: F => by
    obtain ⟨a, b⟩ := lins_all F
    obtain ⟨c, d⟩ := lin_ok x
    exact ⟨by simp only [List.map_cons, PyData.canLayAll0, c, a, Bool.and_self], by simp only [List.map_cons, PyData.depthAll]; omega⟩
theorem lin_shaped (xs : List Int) : SeqAt.shaped (linD xs) = true := by
  obtain ⟨a, b⟩ := lin_ok xs
  unfold SeqAt.shaped
  rw [a, Bool.true_and, decide_eq_true_iff]
  omega
theorem lins_shaped (F : List (List Int)) : SeqAt.shaped (.list (F.map linD)) = true := by
  obtain ⟨a, b⟩ := lins_all F
  have h1 : (PyData.list (F.map linD)).canLay0 = true := by simp only [PyData.canLay0]; exact a
  unfold SeqAt.shaped
  rw [h1, Bool.true_and, decide_eq_true_iff]
  simp only [PyData.depth]
  omega
theorem eqv_ints : ∀ xs ys : List Int, PyData.eqvAll (xs.map PyData.int) (ys.map PyData.int) = decide (xs = ys)
  | [], [] => by simp [PyData.eqvAll]
  | [], _ :: _ => by simp [PyData.eqvAll]
  | _ :: _, [] => by simp [PyData.eqvAll]
  | x :: xs, y :: ys => by
    rw [List.map_cons, List.map_cons, PyData.eqvAll, eqv_ints xs ys]
    by_cases h : x = y
    · subst h
      simp [PyData.eqv]
    · simp [PyData.eqv, h]
theorem any_lin (F : List (List Int)) (ys : List Int) : ((F.map linD).any fun z => PyData.eqv z (linD ys)) = decide (ys ∈ F) := by
  induction F with
  | nil => simp
  | cons x F ih =>
    rw [List.map_cons, List.any_cons, ih]
    unfold linD
    rw [PyData.eqv, eqv_ints]
    by_cases h : x = ys
    · subst h; simp
    · have h' : ¬ ys = x := fun e => h e.symm
      simp [h, h']
open Classical in
noncomputable def goB (B : List R3) (F : List (List Int)) (xs : List Int) : Bool := decide (Goes B F xs)
theorem goB_t {B : List R3} {F : List (List Int)} {xs : List Int} (h : Goes B F xs) : goB B F xs = true := by unfold goB; exact @decide_eq_true _ (Classical.propDecidable _) h
theorem goB_f {B : List R3} {F : List (List Int)} {xs : List Int} (h : ¬ Goes B F xs) : goB B F xs = false := by unfold goB; exact @decide_eq_false _ (Classical.propDecidable _) h
theorem goB_of {B : List R3} {F : List (List Int)} {xs : List Int} (h : goB B F xs = true) : Goes B F xs := by unfold goB at h; exact @of_decide_eq_true _ (Classical.propDecidable _) h
theorem letB_of {B : List R3} {xs : List Int} (h : letB B xs = true) : LetP B xs := by unfold letB at h; exact @of_decide_eq_true _ (Classical.propDecidable _) h
def spGO : Sp := fun vs H Q _ => ∃ (k a fd : Addr) (lo hi : Int) (rs : List R3) (xs : List Int) (L : List V) (F : List (List Int)), vs = [.ref k, .ref a, .ref fd] ∧ KindAt H k lo hi rs ∧ Wide1 ((1, lo, hi) :: rs) ∧ (∀ r ∈ rs, r.1 ≤ 1000) ∧ H a = some (.lst (xs.map V.int)) ∧ xs.length ≤ 900 ∧
  H fd = some (.lst L) ∧ Lns H L F ∧ ∀ H', Same H H' → Q (.bl (goB ((1, lo, hi) :: rs) F xs)) H'
section
variable {P : Program} {w : World} {K : PySem.W.Frag} {mg : Str → Option Value} {base : Heap}
theorem ok_goes {f : Addr} {fd : FuncData} (F : Fun K "_law_goes_on" "_law_goes_on" s_goes_on f fd) (T : Blt mg) (GIL : CalN P w K mg base 2 "_law_is_let" spIL) : FnOk P w K mg base CX0 3 f fd ["kind", "line", "found"] spGO := by
  refine F.ok sc_goes_on (fun vs H Q E h => ?_) (fun cdv A outer s H vs Q E hr h => ?_)
  · obtain ⟨k, a, fd, lo, hi, rs, xs, L, F, rfl, _⟩ := h
    rfl
  · obtain ⟨k, a, fd, lo, hi, rs, xs, L, F, rfl, ka, wide, w1000, ha, hle, hfd, hL, q⟩ := h
    obtain ⟨l0, R0, hk, hl0, hR0, hle0, c1, c2⟩ := id ka
    refine ⟨_, (pss_cons (ps_asg (pe_tup (pa_cons pe_bl (pa_cons pe_bl pa_nil))) (pg_tup rfl (pgs_cons (pg_name (i := 3) sc_goes_on.nd rfl (Or.inl rfl)) (pgs_cons (pg_name (i := 4) sc_goes_on.nd rfl (Or.inl rfl)) pgs_nil))))
      (pss_cons (ps_for PassesOwn.never rfl (pi_range2 (by rfl) T.n_range (pa_cons (pe_ix ix_tup (pv 0) pe_int (fun _ _ => rfl)) (pa_cons (pe_op op_add (pe_ix ix_tup (pv 0) pe_int (fun _ _ => rfl)) pe_int) pa_nil))) (pg_name (i := 5) sc_goes_on.nd rfl (Or.inl rfl)) 
        (C8.pss_cut (ps_if (pw_and (pt_cmpR (op_inD (hun65 hr)) (pe_op op_cat (pe_slice sl_list (pv 1) (po_some pe_int) po_none) (pe_lst (pa_cons (pv 5) pa_nil))) (pv 2) (by with_unfolding_all rfl)) (pw_and1 (pt_val (pe_cN GIL hr (by decide) (by rfl) (pa_cons (pv 0) (pa_cons (pe_op op_cat (pv 1) (pe_lst (pa_cons (pv 5) pa_nil))) pa_nil)))))).pt 
          (pss_one (ps_set (i := 4) sc_goes_on.nd rfl (Or.inl rfl) pe_bl)) pss_nil)
        (pss_one (ps_if (pw_and (pt_cmpR (op_inD (hun65 hr)) (pe_op op_cat (pe_lst (pa_cons (pv 5) pa_nil)) (pe_slice sl_list (pv 1) po_none (po_some (pe_un un_neg pe_int)))) (pv 2) (by with_unfolding_all rfl)) (pw_and1 (pt_val (pe_cN GIL hr (by decide) (by rfl) (pa_cons (pv 0) (pa_cons (pe_op op_cat (pe_lst (pa_cons (pv 5) pa_nil)) (pv 1)) pa_nil)))))).pt 
          (pss_one (ps_set (i := 3) sc_goes_on.nd rfl (Or.inl rfl) pe_bl)) pss_nil))))
      (pss_one (ps_ret (pe_and (pv 3) (pe_one (pv 4))))))), ?_⟩
    wtm_at "ev_go"
    intro p0 hp0
    have s0 := Same.new (o := .tup [V.bl false, .bl false]) hp0
    wtm_at "ev_go"
    refine rd_rg2 (i := lo) (j := hi + 1) (by omega) (by omega) ?_
    wtm_at "ev_go"
    have e1 : (1, lo, hi) ∈ (1, lo, hi) :: rs := List.mem_cons_self
    refine rd_forR (fun j σ' H' => ∃ (b1 b2 : Bool) (x5 : Option V), σ' = [some (.ref k), some (.ref a), some (.ref fd), some (.bl b1), some (.bl b2), x5] ∧ Same H H' ∧ (b2 = true ↔ ∃ i : Nat, i < j ∧ xs.drop 1 ++ [lo + (i : Int)] ∈ F ∧ LetP ((1, lo, hi) :: rs) (xs ++ [lo + (i : Int)])) ∧
      (b1 = true ↔ ∃ i : Nat, i < j ∧ (lo + (i : Int)) :: xs.dropLast ∈ F ∧ LetP ((1, lo, hi) :: rs) ((lo + (i : Int)) :: xs))) ⟨_, _, _, rfl, s0, ⟨fun h => (by cases h), fun ⟨i, h, _⟩ => absurd h (Nat.not_lt_zero _)⟩, ⟨fun h => (by cases h), fun ⟨i, h, _⟩ => absurd h (Nat.not_lt_zero _)⟩⟩ ?_ ?_
    · rintro j σ' H' hj ⟨b1, b2, x5, rfl, sm, i2, i1⟩
      generalize hd : lo + (j : Int) = d
      have ha' := sm _ _ ha
      wtm_at "ev_go"
      refine rd_cut (fun σ'' H'' => ∃ (b2' : Bool), σ'' = [some (.ref k), some (.ref a), some (.ref fd), some (.bl b1), some (.bl b2'), some (.int d)] ∧ Same H H'' ∧ (b2' = true ↔ ∃ i : Nat, i < j + 1 ∧ xs.drop 1 ++ [lo + (i : Int)] ∈ F ∧ LetP ((1, lo, hi) :: rs) (xs ++ [lo + (i : Int)]))) ?_ ?_
      · have no : ¬ (xs.drop 1 ++ [d] ∈ F ∧ LetP ((1, lo, hi) :: rs) (xs ++ [d])) → (b2 = true ↔ ∃ i : Nat, i < j + 1 ∧ xs.drop 1 ++ [lo + (i : Int)] ∈ F ∧ LetP ((1, lo, hi) :: rs) (xs ++ [lo + (i : Int)])) := fun nn => by
          rw [i2]
          refine ⟨fun ⟨i, h, z⟩ => ⟨i, by omega, z⟩, fun ⟨i, h, z⟩ => ?_⟩
          rcases Nat.lt_succ_iff_lt_or_eq.mp h with h | rfl
          · exact ⟨i, h, z⟩
          · rw [hd] at z
            exact absurd z nn
        wtm_at "ev_go"
        refine rd_slL (SqL.of ha') (fun c hc => ?_)
        rw [show (1 : Int) = ((1 : Nat) : Int) from rfl, cutV_tail]
        wtm_at "ev_go"
        intro o ho
        have sc := sm.trans (Same.new (o := .lst ((xs.map V.int).drop 1)) hc)
        have so := sc.trans (Same.new (o := .lst [V.int d]) ho)
        wtm_at "ev_go"
        have nco : c ≠ o := ne_of_none upd_same ho
        refine rd_cat (lk_ne nco upd_same) upd_same (by rw [List.length_drop, List.length_map, List.length_cons, List.length_nil]; omega) (fun z hz => ?_)
        have sz := so.trans (Same.new (o := .lst ((xs.map V.int).drop 1 ++ [V.int d])) hz)
        have ez : (xs.map V.int).drop 1 ++ [V.int d] = (xs.drop 1 ++ [d]).map V.int := by rw [List.map_append, List.map_drop]; rfl
        wtm_at "ev_go"
        refine ⟨linD (xs.drop 1 ++ [d]), F.map linD, .lst (SqL.of (by rw [← ez]; exact upd_same)) (ints_all _), .lst (SqL.of (sz _ _ hfd)) (hL.mono sz).all, lin_shaped _, lins_shaped _, ?_⟩
        rw [any_lin]
        wtm_at "ev_go"
        refine rd_ite (fun hm => ?_) (fun hm => ?_)
        · wtm_at "ev_go"
          intro o2 ho2
          have so2 := sz.trans (Same.new (o := .lst [V.int d]) ho2)
          have ha2 := so2 _ _ ha
          wtm_at "ev_go"
          refine rd_cat ha2 upd_same (by rw [List.length_map, List.length_cons, List.length_nil]; omega) (fun z2 hz2 => ?_)
          have sz2 := so2.trans (Same.new (o := .lst (xs.map V.int ++ [V.int d])) hz2)
          have ez2 : xs.map V.int ++ [V.int d] = (xs ++ [d]).map V.int := by rw [List.map_append]; rfl
          wtm_at "ev_go"
          refine ⟨k, z2, lo, hi, rs, xs ++ [d], rfl, ka.mono sz2, wide, w1000, by rw [← ez2]; exact upd_same, by rw [List.length_append, List.length_singleton]; omega, fun H3 s3 => ?_⟩
          wtm_at "ev_go"
          by_cases hl : LetP ((1, lo, hi) :: rs) (xs ++ [d])
          · rw [letB_t hl]
            wtm_at "ev_go"
            exact ⟨true, rfl, sz2.trans s3, ⟨fun _ => ⟨j, by omega, by rw [hd]; exact ⟨hm, hl⟩⟩, fun _ => rfl⟩⟩
          · rw [letB_f hl]
            wtm_at "ev_go"
            exact ⟨b2, rfl, sz2.trans s3, no fun z => hl z.2⟩
        · wtm_at "ev_go"
          exact ⟨b2, rfl, sz, no fun z => hm z.1⟩
      · rintro σ'' H'' ⟨b2', rfl, sm2, i2'⟩
        have ha3 := sm2 _ _ ha
        have no : ¬ (d :: xs.dropLast ∈ F ∧ LetP ((1, lo, hi) :: rs) (d :: xs)) → (b1 = true ↔ ∃ i : Nat, i < j + 1 ∧ (lo + (i : Int)) :: xs.dropLast ∈ F ∧ LetP ((1, lo, hi) :: rs) ((lo + (i : Int)) :: xs)) := fun nn => by
          rw [i1]
          refine ⟨fun ⟨i, h, z⟩ => ⟨i, by omega, z⟩, fun ⟨i, h, z⟩ => ?_⟩
          rcases Nat.lt_succ_iff_lt_or_eq.mp h with h | rfl
          · exact ⟨i, h, z⟩
          · rw [hd] at z
            exact absurd z nn
        wtm_at "ev_go"
        intro o ho
        have so := sm2.trans (Same.new (o := .lst [V.int d]) ho)
        have ha4 := so _ _ ha
        wtm_at "ev_go"
        refine rd_slL (SqL.of ha4) (fun c hc => ?_)
        rw [cutV_init]
        have sc := so.trans (Same.new (o := .lst (xs.map V.int).dropLast) hc)
        wtm_at "ev_go"
        have noc : o ≠ c := ne_of_none upd_same hc
        refine rd_cat (lk_ne noc upd_same) upd_same (by rw [List.length_dropLast, List.length_map, List.length_cons, List.length_nil]; omega) (fun z hz => ?_)
        have sz := sc.trans (Same.new (o := .lst ([V.int d] ++ (xs.map V.int).dropLast)) hz)
        have ez : [V.int d] ++ (xs.map V.int).dropLast = (d :: xs.dropLast).map V.int := by rw [List.map_cons, List.map_dropLast]; rfl
        wtm_at "ev_go"
        refine ⟨linD (d :: xs.dropLast), F.map linD, .lst (SqL.of (by rw [← ez]; exact upd_same)) (ints_all _), .lst (SqL.of (sz _ _ hfd)) (hL.mono sz).all, lin_shaped _, lins_shaped _, ?_⟩
        rw [any_lin]
        wtm_at "ev_go"
        refine rd_ite (fun hm => ?_) (fun hm => ?_)
        · wtm_at "ev_go"
          intro o2 ho2
          have so2 := sz.trans (Same.new (o := .lst [V.int d]) ho2)
          have ha2 := so2 _ _ ha
          wtm_at "ev_go"
          refine rd_cat upd_same ha2 (by rw [List.length_map, List.length_cons, List.length_nil]; omega) (fun z2 hz2 => ?_)
          have sz2 := so2.trans (Same.new (o := .lst ([V.int d] ++ xs.map V.int)) hz2)
          have ez2 : [V.int d] ++ xs.map V.int = (d :: xs).map V.int := rfl
          wtm_at "ev_go"
          refine ⟨k, z2, lo, hi, rs, d :: xs, rfl, ka.mono sz2, wide, w1000, by rw [← ez2]; exact upd_same, by rw [List.length_cons]; omega, fun H3 s3 => ?_⟩
          wtm_at "ev_go"
          by_cases hl : LetP ((1, lo, hi) :: rs) (d :: xs)
          · rw [letB_t hl]
            wtm_at "ev_go"
            exact ⟨true, b2', _, rfl, sz2.trans s3, i2', ⟨fun _ => ⟨j, by omega, by rw [hd]; exact ⟨hm, hl⟩⟩, fun _ => rfl⟩⟩
          · rw [letB_f hl]
            wtm_at "ev_go"
            exact ⟨b1, b2', _, rfl, sz2.trans s3, i2', no fun z => hl z.2⟩
        · wtm_at "ev_go"
          exact ⟨b1, b2', _, rfl, sz, i2', no fun z => hm z.1⟩
    · rintro σ' H' ⟨b1, b2, x5, rfl, sm, i2, i1⟩
      have z := q H' sm
      have g2 : (b2 = true) ↔ ∃ d : Int, xs.drop 1 ++ [d] ∈ F ∧ LetP ((1, lo, hi) :: rs) (xs ++ [d]) := by
        rw [i2]
        refine ⟨fun ⟨i, _, h⟩ => ⟨_, h⟩, fun ⟨d, h1, h2⟩ => ?_⟩
        obtain ⟨u1, u2⟩ := goes_day e1 h2
        refine ⟨(d - lo).toNat, by omega, ?_⟩
        have : lo + ((d - lo).toNat : Int) = d := by omega
        rw [this]
        exact ⟨h1, h2⟩
      have g1 : (b1 = true) ↔ ∃ d : Int, d :: xs.dropLast ∈ F ∧ LetP ((1, lo, hi) :: rs) (d :: xs) := by
        rw [i1]
        refine ⟨fun ⟨i, _, h⟩ => ⟨_, h⟩, fun ⟨d, h1, h2⟩ => ?_⟩
        obtain ⟨u1, u2⟩ := goes_day' e1 h2
        refine ⟨(d - lo).toNat, by omega, ?_⟩
        have : lo + ((d - lo).toNat : Int) = d := by omega
        rw [this]
        exact ⟨h1, h2⟩
      wtm_at "ev_go"
      cases b1 with
      | true =>
        wtm_at "ev_go"
        cases b2 with
        | true =>
          rw [goB_t ⟨g2.mp rfl, g1.mp rfl⟩] at z
          exact z
        | false =>
          rw [goB_f fun h => by have := g2.mpr h.1; cases this] at z
          exact z
      | false =>
        wtm_at "ev_go"
        rw [goB_f fun h => by have := g1.mpr h.2; cases this] at z
        exact z
end
end Ev

namespace Ev
open PySem PySem.Spec PyProof.Rows L2
local macro_rules | `(tactic| wtm_at "ev_ne") => `(tactic| first | assumption | exact Ne.symm (by assumption))
local macro_rules | `(tactic| wtm_at "ev_lk") => `(tactic| first | assumption | exact upd_same | (refine lk_new' (by assumption) ?_; wtm_at "ev_lk") | (refine lk_ne (by wtm_at "ev_ne") ?_; wtm_at "ev_lk") | (refine same_lk (by assumption) ?_; wtm_at "ev_lk"))
local macro_rules | `(tactic| wtm_at "ev_sm") => `(tactic| first | assumption | exact Same.refl _ | (refine same_new ?_ (by assumption); wtm_at "ev_sm") | (refine Same.trans ?_ (by assumption); wtm_at "ev_sm"))
local macro_rules | `(tactic| wtm_at "ev_no") => `(tactic| first | assumption | exact no_back (by assumption) | (refine no_new ?_ (by wtm_at "ev_ne"); wtm_at "ev_no"))
local macro_rules | `(tactic| wtm_at "ev_sq") => `(tactic| first | assumption | exact SqL.of (by wtm_at "ev_lk") | exact SqT.of (by wtm_at "ev_lk"))
local macro_rules | `(tactic| wtm_at "ev_step") => `(tactic| with_reducible first
  | refine rd_seq ?_ | refine rd_next ?_ | refine rd_ret ?_ | refine rd_retN ?_ | refine rd_if ?_ | refine rd_drop ?_ | refine rd_asg ?_ | refine rd_name ?_ | refine rd_gsub ?_ | refine rd_gnil ?_ | refine rd_gcons ?_
  | refine rd_c ?_ | refine rd_op ?_ | refine rd_un ?_ | refine rd_rI0 ?_ | refine rd_rU ?_ | refine rd_tup ?_ | refine rd_lst ?_ | refine rd_nil ?_ | refine rd_cons ?_ | refine rd_cb ?_ | refine rd_call ?_ | refine rd_sl ?_ | refine rd_no ?_ | refine rd_part ?_
  | refine rd_test ?_ | refine rd_tB ?_ | refine rd_not ?_ | refine rd_and ?_ | refine rd_or ?_ | refine rd_notV ?_ | refine rd_andV ?_ | refine rd_orV ?_ | refine rd_ifE ?_ | refine rd_bl ?_ | refine rd_ex ?_
  | refine rd_rng1 ?_ | refine rd_overL ?_ | refine rd_overT ?_ | refine rd_forA ?_ | refine rd_forB ?_ | refine rd_forC ?_ | refine rd_lcA ?_ | refine rd_lcB ?_ | refine rd_lcC ?_ | refine rd_bm ?_ | refine rd_mkv ?_ | refine rd_xv ?_
  | refine rd_T ?_ | refine rd_F ?_ | refine rd_True ?_ | refine rd_False ?_ | refine rd_int ?_ | refine rd_intB ?_ | refine rd_one ?_ | refine rd_two ?_)
local macro_rules | `(tactic| wtm_at "ev_cond") => `(tactic| first | assumption | exact (show (0 : Int) < _ by decide) | exact (show (0 : Int) < _ by omega) | exact Or.inl ⟨by decide, by decide⟩ | exact Or.inr ⟨by decide, by decide⟩ | exact pow_cond (by decide) (by decide) (by first | decide | omega) (by first | decide | omega) | exact wide_div (b := 2000) (by first | assumption | decide | omega) (by first | decide | omega) (by decide) (by decide))
local macro_rules | `(tactic| wtm_at "ev_side") => `(tactic| first
  | ((with_reducible apply rd_var); exact rfl)
  | ((with_reducible apply rd_ixL); (wtm_at "ev_sq"); exact rfl)
  | ((with_reducible apply rd_ixT); (wtm_at "ev_sq"); exact rfl)
  | ((with_reducible apply rd_eq); exact rfl)
  | ((with_reducible apply rd_ne); exact rfl)
  | ((with_reducible apply rd_setL); (wtm_at "ev_lk"); exact rfl)
  | ((with_reducible apply rd_gtup); (wtm_at "ev_sq"); exact rfl)
  | ((with_reducible apply rd_len); (wtm_at "ev_sq"))
  | ((with_reducible apply rd_lenT); (wtm_at "ev_sq"))
  | ((with_reducible apply rd_rg); (first | decide | omega); (first | decide | omega))
  | ((with_reducible apply rd_atL); (wtm_at "ev_sq"))
  | ((with_reducible apply rd_atT); (wtm_at "ev_sq"))
  | ((with_reducible apply rd_tyL); (wtm_at "ev_sq"))
  | ((with_reducible apply rd_cat); (wtm_at "ev_lk"); (wtm_at "ev_lk"); exact Nat.le_of_ble_eq_true rfl)
  | ((with_reducible apply rd_size); exact Nat.le_of_ble_eq_true rfl)
  | ((with_reducible apply rd_rI); wtm_at "ev_cond"))
local macro_rules | `(tactic| wtm_at "ev_rd") => `(tactic| repeat (first | wtm_at "ev_step" | wtm_at "ev_side"))
local macro_rules | `(tactic| wtm_at "ev_go") => `(tactic| ((try simp only [L2.start, List.map_cons, List.map_nil, List.length_cons, List.length_nil, Nat.reduceAdd, Nat.reduceSub, List.replicate_succ, List.replicate_zero, List.cons_append, List.nil_append]); wtm_at "ev_rd"; (try simp only [List.set_cons_zero, List.set_cons_succ, upd_upd])))
local macro_rules | `(tactic| wtm_at "ev_step") => `(tactic| with_reducible first | refine rd_par ?_ | refine rd_par2 ?_ | refine rd_forD ?_)
local macro_rules | `(tactic| wtm_at "ev_side") => `(tactic| ((with_reducible apply rd_enumL); (wtm_at "ev_sq")))
local macro_rules | `(tactic| wtm_at "ev_cond") => `(tactic| exact Num.mul (by assumption) (by assumption))
local macro_rules | `(tactic| wtm_at "ev_step") => `(tactic| with_reducible first | refine rd_fld ?_ | refine rd_sfld ?_ | refine rd_tmko ?_ | refine rd_meth0 ?_ | refine rd_make ?_ | refine rd_prop ?_ | refine rd_callK0 ?_)

local macro_rules | `(tactic| wtm_at "ev_step") => `(tactic| with_reducible first | refine rd_chain ?_ | refine rd_rng2 ?_ | refine rd_forF ?_ | refine rd_lcD ?_)
section
variable {K : PySem.W.Frag} {σ : L2.St} {H : Hp}
theorem rd_lcG {a : Addr} {xs : List V} {s1 : Nat} {te : TE} {Q : VK} (ys : List V) (hL : SqL K H a xs) (hlen : ys.length = xs.length) (hn : xs.length ≤ 1000) (hw : ∀ x : V, L2.wipe ((L2.wipe σ [s1]).set s1 (some x)) [s1] = L2.wipe σ [s1])
    (he : ∀ (i : Nat) (x y : V) (H' : Hp) (Q' : VK), xs[i]? = some x → ys[i]? = some y → Same H H' → (∀ H'', Same H' H'' → Q' y H'') → te ((L2.wipe σ [s1]).set s1 (some x)) H' Q')
    (q : ∀ (l : Addr) (H' : Hp), Same H H' → H l = none → H' l = some (.lst ys) → Q (.ref l) H') : tLc (fun _ H' R => R (Itl K a) H') (gName s1) tYes te [s1] σ H Q := fun l hl => by
  refine lc_list (xs := xs) (fun i H' => Same H H' ∧ H' l = some (.lst (ys.take i))) ⟨Same.new hl, upd_same⟩ (fun i H' _ h => sqL_same hL h.1) (fun i x H' hx h => ?_) (fun H' h => ?_)
  · obtain ⟨sm, hacc⟩ := h
    have hi := (List.getElem?_eq_some_iff.mp hx).1
    have hy : ys[i]? = some ys[i] := List.getElem?_eq_getElem (by omega)
    refine ⟨hw x, ?_⟩
    dsimp only [tYes]
    rw [if_pos rfl]
    refine he i x _ H' _ hx hy sm (fun H'' s2 => ?_)
    refine ⟨ys.take i, s2 _ _ hacc, ?_, fun c o z => ?_, ?_⟩
    · rw [List.length_take, sizeLine_eq]
      omega
    · rw [upd_ne (ne_of_none z hl)]
      exact s2 _ _ (sm _ _ z)
    · rw [List.take_add_one, hy]
      exact upd_same
  · obtain ⟨sm, hacc⟩ := h
    rw [← hlen, List.take_length] at hacc
    exact q l H' sm hl hacc

/-- [new list of ints for i in range(lo, lo + n)] -/
theorem rd_lcR {s1 n : Nat} {lo : Int} {te : TE} {Q : VK} (f : Nat → List Int) (hn : n ≤ 1000) (hw : ∀ x : V, L2.wipe ((L2.wipe σ [s1]).set s1 (some x)) [s1] = L2.wipe σ [s1])
    (he : ∀ (i : Nat) (H' : Hp) (Q' : VK), i < n → Same H H' → (∀ p H'', Same H' H'' → H' p = none → H'' p = some (.lst ((f i).map V.int)) → Q' (.ref p) H'') → te ((L2.wipe σ [s1]).set s1 (some (.int (lo + i)))) H' Q')
    (q : ∀ (l : Addr) (R : List V) (H' : Hp), Same H H' → H l = none → H' l = some (.lst R) → Lns H' R ((List.range n).map f) → (∀ v ∈ R, ∀ b, v = .ref b → H b = none) → Q (.ref l) H') : tLc (fun _ H' R => R (Itr lo n) H') (gName s1) tYes te [s1] σ H Q := fun l hl => by
  refine lc_range (fun i H' => ∃ acc, Same H H' ∧ H' l = some (.lst acc) ∧ Lns H' acc ((List.range i).map f) ∧ (∀ v ∈ acc, v ≠ .ref l) ∧ ∀ v ∈ acc, ∀ b, v = .ref b → H b = none) ⟨[], Same.new hl, upd_same, Lns.nil, (fun v hv => by cases hv), (fun v hv => by cases hv)⟩ (fun i H' hi h => ?_) (fun H' h => ?_)
  · obtain ⟨acc, sm, hacc, hL, hf, hg⟩ := h
    refine ⟨hw _, ?_⟩
    dsimp only [tYes]
    rw [if_pos rfl]
    refine he i H' _ hi sm (fun p H'' s2 hp hpp => ?_)
    have npl : l ≠ p := ne_of_none hacc hp
    refine ⟨acc, s2 _ _ hacc, ?_, acc ++ [.ref p], fun c o z => ?_, upd_same, ?_, fun v hv => ?_, fun v hv b e => ?_⟩
    · rw [hL.1, List.length_map, List.length_range, sizeLine_eq]
      omega
    · rw [upd_ne (ne_of_none z hl)]
      exact s2 _ _ (sm _ _ z)
    · rw [List.range_succ, List.map_append]
      refine Lns.put ((hL.mono s2).append (Lns.one hpp)) (fun v hv => ?_)
      rcases List.mem_append.mp hv with hv | hv
      · exact hf v hv
      · rw [List.mem_singleton.mp hv]
        intro z
        cases z
        exact npl rfl
    · rcases List.mem_append.mp hv with hv | hv
      · exact hf v hv
      · rw [List.mem_singleton.mp hv]
        intro z
        cases z
        exact npl rfl
    · rcases List.mem_append.mp hv with hv | hv
      · exact hg v hv b e
      · rw [List.mem_singleton.mp hv] at e
        cases e
        exact sm.free hp
  · obtain ⟨acc, sm, hacc, hL, hf, hg⟩ := h
    exact q l acc H' sm hl hacc hL hg
/-- [x for x in lists if t] -/
theorem rd_lcF {a : Addr} {L : List V} {G : List (List Int)} {s1 : Nat} {tt : TT} {te : TE} {Q : VK} (p : List Int → Bool) (hL : SqL K H a L) (hG : Lns H L G) (hn : L.length ≤ 1000) (hw : ∀ x : V, L2.wipe ((L2.wipe σ [s1]).set s1 (some x)) [s1] = L2.wipe σ [s1])
    (ht : ∀ (x : List Int) (b : Addr) (H' : Hp) (Q' : Bool → Hp → Prop), x ∈ G → Same H H' → H' b = some (.lst (x.map V.int)) → (∀ H'', Same H' H'' → Q' (p x) H'') → tt ((L2.wipe σ [s1]).set s1 (some (.ref b))) H' Q')
    (he : ∀ (b : Addr) (H' : Hp) (Q' : VK), Q' (.ref b) H' → te ((L2.wipe σ [s1]).set s1 (some (.ref b))) H' Q')
    (q : ∀ (l : Addr) (R : List V) (H' : Hp), Same H H' → H l = none → H' l = some (.lst R) → Lns H' R (G.filter p) → Q (.ref l) H') : tLc (fun _ H' R => R (Itl K a) H') (gName s1) tt te [s1] σ H Q := fun l hl => by
  refine lc_list (xs := L) (fun i H' => ∃ acc, Same H H' ∧ H' l = some (.lst acc) ∧ Lns H' acc ((G.take i).filter p) ∧ ∀ v ∈ acc, v ≠ .ref l) ⟨[], Same.new hl, upd_same, Lns.nil, (fun v hv => by cases hv)⟩ (fun i H' _ h => by obtain ⟨_, s, _⟩ := h; exact sqL_same hL s) (fun i x H' hx h => ?_) (fun H' h => ?_)
  · obtain ⟨acc, sm, hacc, hA, hf⟩ := h
    obtain ⟨b, xs, rfl, ex, hb⟩ := hG.2 i x hx
    have hi := (List.getElem?_eq_some_iff.mp hx).1
    have et : G.take (i + 1) = G.take i ++ [xs] := by rw [List.take_add_one, ex]; rfl
    refine ⟨hw _, ?_⟩
    refine ht xs b H' _ (List.mem_of_getElem? ex) sm (sm _ _ hb) (fun H'' s2 => ?_)
    cases hp : p xs with
    | true =>
      rw [if_pos rfl]
      refine he b H'' _ ⟨acc, s2 _ _ hacc, ?_, acc ++ [.ref b], fun c o z => ?_, upd_same, ?_, ?_⟩
      · have : ((G.take i).filter p).length ≤ i := Nat.le_trans (List.length_filter_le _ _) (by rw [List.length_take]; omega)
        rw [hA.1, sizeLine_eq]
        omega
      · rw [upd_ne (ne_of_none z hl)]
        exact s2 _ _ (sm _ _ z)
      · rw [et, List.filter_append]
        have : [xs].filter p = [xs] := by simp [hp]
        rw [this]
        refine Lns.put ((hA.mono s2).append (Lns.one (s2 _ _ (sm _ _ hb)))) (fun v hv => ?_)
        rcases List.mem_append.mp hv with hv | hv
        · exact hf v hv
        · rw [List.mem_singleton.mp hv]
          intro z
          cases z
          exact absurd rfl (ne_of_none hb hl)
      · intro v hv
        rcases List.mem_append.mp hv with hv | hv
        · exact hf v hv
        · rw [List.mem_singleton.mp hv]
          intro z
          cases z
          exact absurd rfl (ne_of_none hb hl)
    | false =>
      rw [if_neg Bool.false_ne_true]
      refine ⟨acc, sm.trans s2, s2 _ _ hacc, ?_, hf⟩
      rw [et, List.filter_append]
      have : [xs].filter p = [] := by simp [hp]
      rw [this, List.append_nil]
      exact hA.mono s2
  · obtain ⟨acc, sm, hacc, hA, hf⟩ := h
    rw [hG.1, List.take_length] at hA
    exact q l acc H' sm hl hacc hA
theorem rd_extend {l b : Addr} {xs zs : List V} {Q : VK} (h : H l = some (.lst xs)) (g : H b = some (.lst zs)) (hz : xs.length + zs.length ≤ 16777216) (q : Q .non (upd H l (.lst (xs ++ zs)))) : rExtend (.ref l) [.ref b] H Q := ⟨l, b, xs, zs, rfl, rfl, h, g, by rw [sizeLine_eq]; exact hz, q⟩
end
theorem pow3 {t n : Nat} (h : n ≤ 3 ^ t) (ht : t ≤ 3) : n ≤ 27 := Nat.le_trans h (Nat.pow_le_pow_right (by decide) ht)
def spST : Sp := fun vs H Q _ => ∃ (k : Addr) (lo hi : Int) (rs : List R3), vs = [.ref k] ∧ KindAt H k lo hi rs ∧ Wide1 ((1, lo, hi) :: rs) ∧ (∀ r ∈ rs, r.1 ≤ 4) ∧ lo ≤ hi ∧ hi ≤ lo + 2 ∧
  ∀ (p : Addr) (L : List V) (F : List (List Int)) (H' : Hp), Same H H' → H' p = some (.lst L) → Lns H' L F → (NoConf ((1, lo, hi) :: rs) ↔ F ≠ []) → Q (.ref p) H'
section
variable {P : Program} {w : World} {K : PySem.W.Frag} {mg : Str → Option Value} {base : Heap}
set_option maxHeartbeats 4000000 in
theorem ok_states {f : Addr} {fd : FuncData} (F : Fun K "_law_states" "_law_states" s_states f fd) (T : Blt mg) (GLB : CalN P w K mg base 1 "_law_bounds" spLB) (GIL : CalN P w K mg base 2 "_law_is_let" spIL) (GGO : CalN P w K mg base 3 "_law_goes_on" spGO) : FnOk P w K mg base CX0 4 f fd ["kind"] spST := by
  refine F.ok sc_states (fun vs H Q E h => ?_) (fun cdv A outer s H vs Q E hr h => ?_)
  · obtain ⟨k, lo, hi, rs, rfl, _⟩ := h
    rfl
  · obtain ⟨k, lo, hi, rs, rfl, ka, wide, w4, lohi, hi2, q⟩ := h
    have w1000 : ∀ r ∈ rs, r.1 ≤ 1000 := fun r hr => by have := w4 r hr; omega
    refine ⟨_, (pss_cons (ps_asg (pe_tup (pa_cons (pe_op op_sub (pe_callB (cr_max rfl) (by rfl) T.n_max boot_max (pa_cons (pe_op op_cat (pe_lc (own := [("bound", 8)]) (g := gName 8) (tt := tYes) rfl sc_states.nd (pi_list (pe_cN GLB hr (by decide) (by rfl) (pa_cons (pv 0) pa_nil))) (blkOk_by (N := ["kind", "many", "found", "turn", "longer", "line", "size", "one", "bound"]) (sc := defScope s_states) (by decide +kernel)) (fun _ _ _ _ _ => pg_name (i := 8) sc_states.nd rfl (Or.inl rfl)) (fun _ _ _ _ _ => pts_nil) (fun _ _ _ _ _ => (pe_ix (show IxR _ (rIxT K) from ix_tup) (pv 8) pe_int (fun _ _ => rfl)))) (pe_lst (pa_cons pe_int pa_nil))) pa_nil)) pe_int) (pa_cons (pe_lst (pa_cons (pe_lst pa_nil) pa_nil)) pa_nil))) (pg_tup rfl (pgs_cons (pg_name (i := 1) sc_states.nd rfl (Or.inl rfl)) (pgs_cons (pg_name (i := 2) sc_states.nd rfl (Or.inr rfl)) pgs_nil))))
      (pss_cons (ps_for PassesOwn.never rfl (pi_range1 (by rfl) T.n_range (pa_cons (pv 1) pa_nil)) (pg_name (i := 3) sc_states.nd rfl (Or.inl rfl)) 
        (pss_cons (ps_set (i := 4) sc_states.nd rfl (Or.inl rfl) (pe_lst pa_nil))
        (C8.pss_cut (ps_for PassesOwn.never rfl (pi_list (pv 2)) (pg_name (i := 5) sc_states.nd rfl (Or.inr rfl)) 
          (pss_one (ps_expr (pe_bm PySem.F.plainAttrs_list PySem.F.slot_list_extend PySem.F.type_list_extend mt_extend (pv 4) (pa_cons (pe_lc (own := [("one", 7)]) (g := gName 7) (tt := tYes) rfl sc_states.nd (pi_range2 (by rfl) T.n_range (pa_cons (pe_ix (show IxR _ (rIxT K) from ix_tup) (pv 0) pe_int (fun _ _ => rfl)) (pa_cons (pe_op op_add (pe_ix (show IxR _ (rIxT K) from ix_tup) (pv 0) pe_int (fun _ _ => rfl)) pe_int) pa_nil))) (blkOk_by (N := ["kind", "many", "found", "turn", "longer", "line", "size", "one", "bound"]) (sc := defScope s_states) (by decide +kernel)) (fun _ _ _ _ _ => pg_name (i := 7) sc_states.nd rfl (Or.inl rfl)) (fun _ _ _ _ _ => pts_nil) (fun _ _ _ _ _ => (pe_op op_cat (pv 5) (pe_lst (pa_cons (pv 7) pa_nil))))) pa_nil)))))
        (pss_one (ps_set (i := 2) sc_states.nd rfl (Or.inr rfl) (pe_lc (own := [("line", 5)]) (g := gName 5) (tt := _) rfl sc_states.nd (pi_list (pv 4)) (blkOk_by (N := ["kind", "many", "found", "turn", "longer", "line", "size", "one", "bound"]) (sc := defScope s_states) (by decide +kernel)) (fun _ _ _ _ _ => pg_name (i := 5) sc_states.nd rfl (Or.inl rfl)) (fun _ _ _ _ _ => (pts_one (pt_val (pe_cN GIL hr (by decide) (by rfl) (pa_cons (pv 0) (pa_cons (pv 5) pa_nil)))))) (fun _ _ _ _ _ => (pv 5))))))))
      (pss_cons (ps_set (i := 6) sc_states.nd rfl (Or.inl rfl) (pe_un un_neg pe_int))
      (pss_cons (ps_while PassesOwn.never (pt_cmpR op_ne (pv 6) (pe_callB call_len_seq (by rfl) T.n_len PySem.boot_len (pa_cons (pv 2) pa_nil)) (nomark _)) 
        (pss_cons (ps_set (i := 6) sc_states.nd rfl (Or.inl rfl) (pe_callB call_len_seq (by rfl) T.n_len PySem.boot_len (pa_cons (pv 2) pa_nil)))
        (pss_one (ps_set (i := 2) sc_states.nd rfl (Or.inr rfl) (pe_lc (own := [("line", 5)]) (g := gName 5) (tt := _) rfl sc_states.nd (pi_list (pv 2)) (blkOk_by (N := ["kind", "many", "found", "turn", "longer", "line", "size", "one", "bound"]) (sc := defScope s_states) (by decide +kernel)) (fun _ _ _ _ _ => pg_name (i := 5) sc_states.nd rfl (Or.inl rfl)) (fun _ _ _ _ _ => (pts_one (pt_val (pe_cN GGO hr (by decide) (by rfl) (pa_cons (pv 0) (pa_cons (pv 5) (pa_cons (pv 2) pa_nil))))))) (fun _ _ _ _ _ => (pv 5)))))))
      (pss_one (ps_ret (pv 2))))))), ?_⟩
    wtm_at "ev_go"
    refine ⟨k, lo, hi, rs, rfl, ka, fun p B H1 s1 _ hp hB => ?_⟩
    wtm_at "ev_go"
    have hB4 : ∀ r ∈ (1, lo, hi) :: rs, 1 ≤ r.1 ∧ r.1 ≤ 4 := fun r hr => ⟨wide r hr, by
      rcases List.mem_cons.mp hr with rfl | hr
      · exact (show (1 : Int) ≤ 4 by decide)
      · exact w4 r hr⟩
    have hBl : B.length = rs.length + 1 := hB.1
    have e1 : (1, lo, hi) ∈ (1, lo, hi) :: rs := List.mem_cons_self
    obtain ⟨l0, R0, hk, hl0, hR0, hle0, c1, c2⟩ := id ka
    have hlr : rs.length ≤ 100 := by rw [← hR0.1]; exact hle0
    generalize hBs : (1, lo, hi) :: rs = Bs at hB hB4 e1 q wide
    have hBl' : B.length = Bs.length := hB.1
    refine rd_lcG (Bs.map fun r => V.int r.1) (SqL.of hp) (by rw [List.length_map, hB.1]) (by omega) (fun x => rfl) (fun i x y H' Q' hx hy sm fin => ?_) (fun c H2 s2 nc hc => ?_)
    · obtain ⟨b, r, rfl, er, hb, _⟩ := hB.2 i x hx
      rw [List.getElem?_map, er] at hy
      cases hy
      have hb' := sm _ _ hb
      simp only [L2.wipe, List.foldl_cons, List.foldl_nil, List.set_cons_succ, List.set_cons_zero]
      wtm_at "ev_go"
      exact fin _ (Same.refl _)
    wtm_at "ev_go"
    intro o ho
    have so := s2.trans (Same.new (o := .lst [V.int 2]) ho)
    have nco : c ≠ o := ne_of_none hc ho
    wtm_at "ev_go"
    refine rd_cat (lk_ne nco hc) upd_same (by rw [List.length_map, List.length_cons, List.length_nil]; omega) (fun z hz => ?_)
    have sz := so.trans (Same.new (o := .lst ((Bs.map fun r => V.int r.1) ++ [V.int 2])) hz)
    have ez : (Bs.map fun r => V.int r.1) ++ [V.int 2] = (Bs.map (fun r : R3 => r.1) ++ [2]).map V.int := by rw [List.map_append, List.map_map]; rfl
    wtm_at "ev_go"
    refine ⟨z, Bs.map (fun r : R3 => r.1) ++ [2], rfl, SqL.of (by rw [← ez]; exact upd_same), by rw [List.length_append, List.length_singleton]; omega, fun m hm hmx => ?_⟩
    have m2 : 2 ≤ m := hmx 2 (by simp)
    have m4 : m ≤ 4 := by
      rcases List.mem_append.mp hm with hm | hm
      · obtain ⟨r, hr, rfl⟩ := List.mem_map.mp hm
        exact (hB4 r hr).2
      · rw [List.mem_singleton.mp hm]; decide
    have mB : ∀ r ∈ Bs, r.1.toNat ≤ (m - 1).toNat + 1 := fun r hr => by
      have := hmx r.1 (List.mem_append_left _ (List.mem_map.mpr ⟨r, hr, rfl⟩))
      omega
    clear hmx hm
    wtm_at "ev_go"
    intro a0 ha0
    have sa0 := sz.trans (Same.new (o := .lst []) ha0)
    wtm_at "ev_go"
    intro f0 hf0
    have sf0 := sa0.trans (Same.new (o := .lst [V.ref a0]) hf0)
    have na0 : a0 ≠ f0 := ne_of_none upd_same hf0
    wtm_at "ev_go"
    intro t0 ht0
    have st0 := sf0.trans (Same.new (o := .tup [V.int (m - 1), .ref f0]) ht0)
    have hf1 := (Same.new (o := .tup [V.int (m - 1), .ref f0]) ht0) _ _ (upd_same (H := upd (upd (upd H2 o (.lst [V.int 2])) z (.lst ((Bs.map fun r => V.int r.1) ++ [V.int 2]))) a0 (.lst [])) (a := f0) (o := .lst [V.ref a0]))
    have ha1 := ((Same.new (o := .lst [V.ref a0]) hf0).trans (Same.new (o := .tup [V.int (m - 1), .ref f0]) ht0)) _ _ (upd_same (H := upd (upd H2 o (.lst [V.int 2])) z (.lst ((Bs.map fun r => V.int r.1) ++ [V.int 2]))) (a := a0) (o := .lst []))
    have sAll := s1.trans st0
    wtm_at "ev_go"
    have hm1 : 1 ≤ (m - 1).toNat := by omega
    have hm3 : (m - 1).toNat ≤ 3 := by omega
    generalize (m - 1).toNat = M at hm1 hm3 mB ⊢
    refine rd_forR (fun t σ' H' => ∃ (x3 x4 x5 : Option V) (fnd : Addr) (L : List V) (G : List (List Int)), σ' = [some (.ref k), some (.int (m - 1)), some (.ref fnd), x3, x4, x5, none, none, none] ∧ Same H H' ∧ H' fnd = some (.lst L) ∧ Lns H' L G ∧ G.length ≤ 3 ^ t ∧ (∀ x ∈ G, x.length = t ∧ LetP Bs x) ∧
      ∀ A W : Int, 0 < W → (∀ r ∈ Bs, r.2.1 * W ≤ A * r.1 ∧ A * r.1 ≤ r.2.2 * W) → Ev0 A W t G) ⟨_, _, _, f0, [.ref a0], [[]], rfl, sAll, hf1, Lns.one ha1, by decide, fun x hx => ?_, fun A W _ _ k => ?_⟩ ?_ ?_
    · rw [List.mem_singleton.mp hx]
      refine ⟨rfl, fun r hr s hs => ?_⟩
      have := (hB4 r hr).1
      rw [List.length_nil] at hs
      omega
    · exact List.mem_singleton.mpr rfl
    · rintro t σ' H' ht ⟨x3, x4, x5, fnd, L, G, rfl, sm, hfnd, hL, hG3, hGl, hGe⟩
      have hG27 : G.length ≤ 27 := pow3 hG3 (by omega)
      have hLl : L.length = G.length := hL.1
      wtm_at "ev_go"
      intro lg hlg
      wtm_at "ev_go"
      have slg := Same.new (o := .lst []) hlg
      have hfnd' := slg _ _ hfnd
      refine rd_cut (fun σ'' H'' => ∃ (x5 : Option V) (Lx : List V) (G' : List (List Int)), σ'' = [some (.ref k), some (.int (m - 1)), some (.ref fnd), some (.int (0 + (t : Int))), some (.ref lg), x5, none, none, none] ∧ Same H' H'' ∧ H'' lg = some (.lst Lx) ∧ Lns H'' Lx G' ∧ (∀ v ∈ Lx, v ≠ .ref lg) ∧ G'.length ≤ 3 * G.length ∧
        (∀ y ∈ G', y.length = t + 1) ∧ ∀ x ∈ G, ∀ d : Int, lo ≤ d → d ≤ hi → x ++ [d] ∈ G') ?_ ?_
      · wtm_at "ev_go"
        refine rd_forL (xs := L) (fun j σ'' H'' => ∃ (x5 : Option V) (Lx : List V) (G' : List (List Int)), σ'' = [some (.ref k), some (.int (m - 1)), some (.ref fnd), some (.int (0 + (t : Int))), some (.ref lg), x5, none, none, none] ∧ Same H' H'' ∧ H'' lg = some (.lst Lx) ∧ Lns H'' Lx G' ∧ (∀ v ∈ Lx, v ≠ .ref lg) ∧ G'.length ≤ 3 * j ∧
          (∀ y ∈ G', y.length = t + 1) ∧ ∀ (i : Nat) x, i < j → G[i]? = some x → ∀ d : Int, lo ≤ d → d ≤ hi → x ++ [d] ∈ G') ⟨_, [], [], rfl, slg, upd_same, Lns.nil, (fun v hv => by cases hv), Nat.le_refl _, (fun y hy => by cases hy), fun i x hi => absurd hi (Nat.not_lt_zero _)⟩
          (fun i σ' H'' _ h => by obtain ⟨_, _, _, _, z, _⟩ := h; exact SqL.of (z _ _ hfnd)) ?_ ?_
        · rintro j v σ'' H'' hx ⟨x5, Lx, G', rfl, sm2, hlx, hLx, hfr, hG', hG'l, hG'c⟩
          obtain ⟨b, xs, rfl, ex, hb⟩ := hL.2 j v hx
          have hjG := (List.getElem?_eq_some_iff.mp ex).1
          have hxl := (hGl xs (List.mem_of_getElem? ex)).1
          have hk2 := sm2 _ _ (sm _ _ hk)
          have hb2 := sm2 _ _ hb
          wtm_at "ev_go"
          refine rd_rg2 (i := lo) (j := hi + 1) (by omega) (by omega) ?_
          wtm_at "ev_go"
          refine rd_lcR (fun i => xs ++ [lo + (i : Int)]) (by omega) (fun x => rfl) (fun i H3 Q3 hi3 s3 fin => ?_) (fun tmp R H3 s3 ntmp htmp hR hRf => ?_)
          · have hb3 := s3 _ _ hb2
            simp only [L2.wipe, List.foldl_cons, List.foldl_nil, List.set_cons_succ, List.set_cons_zero]
            wtm_at "ev_go"
            intro o2 ho2
            have so2 := Same.new (o := .lst [V.int (lo + (i : Int))]) ho2
            have hb4 := so2 _ _ hb3
            wtm_at "ev_go"
            refine rd_cat hb4 upd_same (by rw [List.length_map, List.length_cons, List.length_nil]; omega) (fun z2 hz2 => ?_)
            exact fin z2 _ (so2.trans (Same.new hz2)) (so2.free hz2) (by rw [upd_same, List.map_append]; rfl)
          · have hlx3 := s3 _ _ hlx
            wtm_at "ev_go"
            have hRl : R.length = (hi + 1 - lo).toNat := by rw [hR.1, List.length_map, List.length_range]
            refine rd_extend hlx3 htmp (by rw [hLx.1, hRl]; omega) ?_
            wtm_at "ev_go"
            have hfr2 : ∀ v ∈ Lx ++ R, v ≠ .ref lg := fun v hv => by
              rcases List.mem_append.mp hv with hv | hv
              · exact hfr v hv
              · intro z
                have := hRf v hv lg z
                rw [hlx] at this
                cases this
            refine ⟨_, Lx ++ R, G' ++ (List.range (hi + 1 - lo).toNat).map (fun i : Nat => xs ++ [lo + (i : Int)]), rfl, fun c o z => ?_, upd_same, Lns.put ((hLx.mono s3).append hR) hfr2, hfr2, ?_, fun y hy => ?_, fun i x hi x' d d1 d2 => ?_⟩
            · rw [upd_ne (ne_of_none z hlg)]
              exact s3 _ _ (sm2 _ _ z)
            · rw [List.length_append, List.length_map, List.length_range]
              omega
            · rcases List.mem_append.mp hy with hy | hy
              · exact hG'l y hy
              · obtain ⟨i, _, rfl⟩ := List.mem_map.mp hy
                rw [List.length_append, hxl, List.length_singleton]
            · rcases Nat.lt_succ_iff_lt_or_eq.mp hi with h | rfl
              · exact List.mem_append_left _ (hG'c i x h x' d d1 d2)
              · rw [ex] at x'
                cases x'
                refine List.mem_append_right _ (List.mem_map.mpr ⟨(d - lo).toNat, List.mem_range.mpr (by omega), ?_⟩)
                have : lo + ((d - lo).toNat : Int) = d := by omega
                rw [this]
        · rintro σ'' H'' ⟨x5, Lx, G', rfl, sm2, hlx, hLx, hfr, hG', hG'l, hG'c⟩
          rw [hLl] at hG'
          refine ⟨_, Lx, G', rfl, sm2, hlx, hLx, hfr, hG', hG'l, fun x hx d d1 d2 => ?_⟩
          obtain ⟨i, hi'⟩ := List.getElem?_of_mem hx
          exact hG'c i x (by rw [hLl]; exact (List.getElem?_eq_some_iff.mp hi').1) hi' d d1 d2
      · rintro σ'' H'' ⟨x5, Lx, G', rfl, sm2, hlx, hLx, hfr, hG', hG'l, hG'c⟩
        have hLx' := hLx.1
        wtm_at "ev_go"
        refine rd_lcF (fun x => letB Bs x) (SqL.of hlx) hLx (by omega) (fun x => rfl) (fun x b H3 Q3 hx s3 hb fin => ?_) (fun b H3 Q3 fin => ?_) (fun fn2 R H3 s3 nfn hfn2 hR => ?_)
        · simp only [L2.wipe, List.foldl_cons, List.foldl_nil, List.set_cons_succ, List.set_cons_zero]
          wtm_at "ev_go"
          have := hG'l x hx
          refine ⟨k, b, lo, hi, rs, x, rfl, ka.mono ((sm.trans sm2).trans s3), by rw [hBs]; exact wide, w1000, hb, by omega, fun H4 s4 => ?_⟩
          rw [hBs]
          wtm_at "ev_go"
          exact fin _ s4
        · simp only [L2.wipe, List.foldl_cons, List.foldl_nil, List.set_cons_succ, List.set_cons_zero]
          wtm_at "ev_go"
          exact fin
        · wtm_at "ev_go"
          refine ⟨_, _, _, fn2, R, G'.filter (fun x => letB Bs x), rfl, (sm.trans sm2).trans s3, hfn2, hR, ?_, fun x hx => ?_, fun A W hW hA kk => ?_⟩
          · refine Nat.le_trans (List.length_filter_le _ _) (Nat.le_trans hG' ?_)
            rw [Nat.pow_succ, Nat.mul_comm]
            exact Nat.mul_le_mul_right _ hG3
          · obtain ⟨h1, h2⟩ := List.mem_filter.mp hx
            exact ⟨hG'l x h1, letB_of h2⟩
          · have hl := evW_let (k := kk) (n := t + 1) wide hW hA
            refine List.mem_filter.mpr ⟨?_, letB_t hl⟩
            rw [← evW_snoc]
            rw [← evW_snoc] at hl
            obtain ⟨u1, u2⟩ := goes_day e1 (B := Bs) (lo := lo) (hi := hi) hl
            exact hG'c _ (hGe A W hW hA kk) _ u1 u2
    · rintro σ' H' ⟨x3, x4, x5, fnd, L, G, rfl, sm, hfnd, hL, hG3, hGl, hGe⟩
      have hG27 : G.length ≤ 27 := pow3 hG3 hm3
      wtm_at "ev_go"
      refine ⟨fun mu σ'' H'' => ∃ (x3 x4 x5 : Option V) (fnd : Addr) (L : List V) (G : List (List Int)) (sz : Int), σ'' = [some (.ref k), some (.int (m - 1)), some (.ref fnd), x3, x4, x5, some (.int sz), none, none] ∧ Same H H'' ∧ H'' fnd = some (.lst L) ∧ Lns H'' L G ∧ G.length ≤ 27 ∧ (∀ x ∈ G, x.length = M ∧ LetP Bs x) ∧
        (∀ A W : Int, 0 < W → (∀ r ∈ Bs, r.2.1 * W ≤ A * r.1 ∧ A * r.1 ≤ r.2.2 * W) → Ev0 A W M G) ∧ (sz = (G.length : Int) → ∀ x ∈ G, Goes Bs G x) ∧ mu = 2 * G.length + (if sz = (G.length : Int) then 0 else 1), ⟨_, _, _, _, fnd, L, G, -1, rfl, sm, hfnd, hL, hG27, hGl, hGe, fun h => absurd h (by omega), rfl⟩, ?_⟩
      rintro mu σ'' H'' ⟨x3, x4, x5, fnd, L, G, sz, rfl, sm, hfnd, hL, hG27, hGl, hGe, hGo, rfl⟩
      have hLl : L.length = G.length := hL.1
      wtm_at "ev_go"
      rw [hLl]
      refine rd_iteN (fun ne => ?_) (fun eq => ?_)
      · have ne' : sz ≠ (G.length : Int) := fun h => ne (by rw [h])
        rw [if_neg ne']
        refine ⟨_, fun σ3 H3 h => h, ?_⟩
        wtm_at "ev_go"
        rw [hLl]
        refine rd_lcF (fun x => goB Bs G x) (SqL.of hfnd) hL (by omega) (fun x => rfl) (fun x b H3 Q3 hx s3 hb fin => ?_) (fun b H3 Q3 fin => ?_) (fun fn2 R H3 s3 nfn hfn2 hR => ?_)
        · have hfnd3 := s3 _ _ hfnd
          simp only [L2.wipe, List.foldl_cons, List.foldl_nil, List.set_cons_succ, List.set_cons_zero]
          wtm_at "ev_go"
          have := (hGl x hx).1
          refine ⟨k, b, fnd, lo, hi, rs, x, L, G, rfl, ka.mono (sm.trans s3), by rw [hBs]; exact wide, w1000, hb, by omega, hfnd3, hL.mono s3, fun H4 s4 => ?_⟩
          rw [hBs]
          wtm_at "ev_go"
          exact fin _ s4
        · simp only [L2.wipe, List.foldl_cons, List.foldl_nil, List.set_cons_succ, List.set_cons_zero]
          wtm_at "ev_go"
          exact fin
        · wtm_at "ev_go"
          have lf : (G.filter fun x => goB Bs G x).length ≤ G.length := List.length_filter_le _ _
          refine ⟨2 * (G.filter fun x => goB Bs G x).length + (if (G.length : Int) = ((G.filter fun x => goB Bs G x).length : Int) then 0 else 1), ?_, _, _, _, fn2, R, G.filter fun x => goB Bs G x, (G.length : Int), rfl, sm.trans s3, hfn2, hR, by omega, fun x hx => hGl x (List.mem_filter.mp hx).1, fun A W hW hA kk => ?_, fun he x hx => ?_, rfl⟩
          · by_cases c : (G.length : Int) = ((G.filter fun x => goB Bs G x).length : Int)
            · rw [if_pos c]
              omega
            · rw [if_neg c]
              omega
          · refine List.mem_filter.mpr ⟨hGe A W hW hA kk, goB_t ?_⟩
            exact Ev0.goes wide hW hA hm1 (hGe A W hW hA) kk
          · have al := List.length_filter_eq_length_iff.mp (by omega : (G.filter fun x => goB Bs G x).length = G.length)
            have ef : (G.filter fun x => goB Bs G x) = G := List.filter_eq_self.mpr al
            rw [ef] at hx ⊢
            exact goB_of (al x hx)
      · have eq' : sz = (G.length : Int) := by
          injection eq
        wtm_at "ev_go"
        refine q fnd L G _ sm hfnd hL ⟨fun nc hn => ?_, fun hn => ?_⟩
        · rw [← hBs] at nc wide
          obtain ⟨A, W, hW, hA⟩ := share_of wide nc
          rw [hBs] at hA
          have := hGe A W hW hA 0
          rw [hn] at this
          cases this
        · obtain ⟨x0, h0⟩ := List.exists_mem_of_ne_nil G hn
          exact noconf_of_walk wide mB (fun x hx => (hGl x hx).1) (fun x hx => (hGl x hx).2) (fun x hx => (hGo eq' x hx).1) h0 hm1
end
end Ev

namespace Ev
open PySem PySem.Spec PyProof.Rows L2
local macro_rules | `(tactic| wtm_at "ev_ne") => `(tactic| first | assumption | exact Ne.symm (by assumption))
local macro_rules | `(tactic| wtm_at "ev_lk") => `(tactic| first | assumption | exact upd_same | (refine lk_new' (by assumption) ?_; wtm_at "ev_lk") | (refine lk_ne (by wtm_at "ev_ne") ?_; wtm_at "ev_lk") | (refine same_lk (by assumption) ?_; wtm_at "ev_lk"))
local macro_rules | `(tactic| wtm_at "ev_sm") => `(tactic| first | assumption | exact Same.refl _ | (refine same_new ?_ (by assumption); wtm_at "ev_sm") | (refine Same.trans ?_ (by assumption); wtm_at "ev_sm"))
local macro_rules | `(tactic| wtm_at "ev_no") => `(tactic| first | assumption | exact no_back (by assumption) | (refine no_new ?_ (by wtm_at "ev_ne"); wtm_at "ev_no"))
local macro_rules | `(tactic| wtm_at "ev_sq") => `(tactic| first | assumption | exact SqL.of (by wtm_at "ev_lk") | exact SqT.of (by wtm_at "ev_lk"))
local macro_rules | `(tactic| wtm_at "ev_step") => `(tactic| with_reducible first
  | refine rd_seq ?_ | refine rd_next ?_ | refine rd_ret ?_ | refine rd_retN ?_ | refine rd_if ?_ | refine rd_drop ?_ | refine rd_asg ?_ | refine rd_name ?_ | refine rd_gsub ?_ | refine rd_gnil ?_ | refine rd_gcons ?_
  | refine rd_c ?_ | refine rd_op ?_ | refine rd_un ?_ | refine rd_rI0 ?_ | refine rd_rU ?_ | refine rd_tup ?_ | refine rd_lst ?_ | refine rd_nil ?_ | refine rd_cons ?_ | refine rd_cb ?_ | refine rd_call ?_ | refine rd_sl ?_ | refine rd_no ?_ | refine rd_part ?_
  | refine rd_test ?_ | refine rd_tB ?_ | refine rd_not ?_ | refine rd_and ?_ | refine rd_or ?_ | refine rd_notV ?_ | refine rd_andV ?_ | refine rd_orV ?_ | refine rd_ifE ?_ | refine rd_bl ?_ | refine rd_ex ?_
  | refine rd_rng1 ?_ | refine rd_overL ?_ | refine rd_overT ?_ | refine rd_forA ?_ | refine rd_forB ?_ | refine rd_forC ?_ | refine rd_lcA ?_ | refine rd_lcB ?_ | refine rd_lcC ?_ | refine rd_bm ?_ | refine rd_mkv ?_ | refine rd_xv ?_
  | refine rd_T ?_ | refine rd_F ?_ | refine rd_True ?_ | refine rd_False ?_ | refine rd_int ?_ | refine rd_intB ?_ | refine rd_one ?_ | refine rd_two ?_)
local macro_rules | `(tactic| wtm_at "ev_cond") => `(tactic| first | assumption | exact (show (0 : Int) < _ by decide) | exact (show (0 : Int) < _ by omega) | exact Or.inl ⟨by decide, by decide⟩ | exact Or.inr ⟨by decide, by decide⟩ | exact pow_cond (by decide) (by decide) (by first | decide | omega) (by first | decide | omega) | exact wide_div (b := 2000) (by first | assumption | decide | omega) (by first | decide | omega) (by decide) (by decide))
local macro_rules | `(tactic| wtm_at "ev_side") => `(tactic| first
  | ((with_reducible apply rd_var); exact rfl)
  | ((with_reducible apply rd_ixL); (wtm_at "ev_sq"); exact rfl)
  | ((with_reducible apply rd_ixT); (wtm_at "ev_sq"); exact rfl)
  | ((with_reducible apply rd_eq); exact rfl)
  | ((with_reducible apply rd_ne); exact rfl)
  | ((with_reducible apply rd_setL); (wtm_at "ev_lk"); exact rfl)
  | ((with_reducible apply rd_gtup); (wtm_at "ev_sq"); exact rfl)
  | ((with_reducible apply rd_len); (wtm_at "ev_sq"))
  | ((with_reducible apply rd_lenT); (wtm_at "ev_sq"))
  | ((with_reducible apply rd_rg); (first | decide | omega); (first | decide | omega))
  | ((with_reducible apply rd_atL); (wtm_at "ev_sq"))
  | ((with_reducible apply rd_atT); (wtm_at "ev_sq"))
  | ((with_reducible apply rd_tyL); (wtm_at "ev_sq"))
  | ((with_reducible apply rd_cat); (wtm_at "ev_lk"); (wtm_at "ev_lk"); exact Nat.le_of_ble_eq_true rfl)
  | ((with_reducible apply rd_size); exact Nat.le_of_ble_eq_true rfl)
  | ((with_reducible apply rd_rI); wtm_at "ev_cond"))
local macro_rules | `(tactic| wtm_at "ev_rd") => `(tactic| repeat (first | wtm_at "ev_step" | wtm_at "ev_side"))
local macro_rules | `(tactic| wtm_at "ev_go") => `(tactic| ((try simp only [L2.start, List.map_cons, List.map_nil, List.length_cons, List.length_nil, Nat.reduceAdd, Nat.reduceSub, List.replicate_succ, List.replicate_zero, List.cons_append, List.nil_append]); wtm_at "ev_rd"; (try simp only [List.set_cons_zero, List.set_cons_succ, upd_upd])))
local macro_rules | `(tactic| wtm_at "ev_step") => `(tactic| with_reducible first | refine rd_par ?_ | refine rd_par2 ?_ | refine rd_forD ?_)
local macro_rules | `(tactic| wtm_at "ev_side") => `(tactic| ((with_reducible apply rd_enumL); (wtm_at "ev_sq")))
local macro_rules | `(tactic| wtm_at "ev_cond") => `(tactic| exact Num.mul (by assumption) (by assumption))
local macro_rules | `(tactic| wtm_at "ev_step") => `(tactic| with_reducible first | refine rd_fld ?_ | refine rd_sfld ?_ | refine rd_tmko ?_ | refine rd_meth0 ?_ | refine rd_make ?_ | refine rd_prop ?_ | refine rd_callK0 ?_)
theorem sqT_same {K : PySem.W.Frag} {H H' : Hp} {a : Addr} {xs : List V} (h : SqT K H a xs) (e : Same H H') : SqT K H' a xs :=
  h.elim (fun h => .inl (h.elim (fun h => .inl (e _ _ h)) fun ⟨o, h⟩ => .inr ⟨o, e _ _ h⟩)) fun h => .inr h
mutual
theorem dp_mono {K : PySem.W.Frag} {H H' : Hp} (s : Same H H') : ∀ (d : PyData) (v : V), Dp K H v d → Dp K H' v d
  | .none, _, h => by cases h; exact .non
  | .bool b, _, h => by cases h; exact .bl b
  | .int i, _, h => by cases h; exact .int i
  | .str x, _, h => by cases h; exact .str x
  | .list ds, _, h => by cases h with | lst h1 h2 => exact .lst (sqL_same h1 s) (dp_monoA s ds _ h2)
  | .tuple ds, _, h => by cases h with | tup h1 h2 => exact .tup (sqT_same h1 s) (dp_monoA s ds _ h2)
  | .dict _, _, h => by cases h
theorem dp_monoA {K : PySem.W.Frag} {H H' : Hp} (s : Same H H') : ∀ (ds : List PyData) (vs : List V), DpAll K H vs ds → DpAll K H' vs ds
  | [], _, h => by cases h; exact .nil
  | d :: ds, _, h => by cases h with | cons a b => exact .cons (dp_mono s d _ a) (dp_monoA s ds _ b)
end
theorem rd_reprS {K : PySem.W.Frag} {H : Hp} {x : V} {d : PyData} {n k : Nat} {Q : VK} (h : Dp K H x d) (s : Sh d n k) (hn : n ≤ 16777216) (hk : k ≤ 100) (q : Q (.str d.shown) H) : rRepr K [x] H Q :=
  rd_repr h s.s s.h (Nat.le_trans s.e hk) (Nat.le_trans s.l (by rw [sizeLine_eq]; exact hn)) q

theorem lt2000 {m : Int} (h : m < 1000000000) : m < 2 ^ 2000 := Int.lt_trans h (by decide +kernel)
theorem KindAt.put {H : Hp} {k p : Addr} {lo hi n : Int} {rs : List R3} {Lp : List V} {o : HO} (h : KindAt H k lo hi rs) (hp : H p = some (.lst Lp)) (hL : PoolL Lp n) : KindAt (upd H p o) k lo hi rs := by
  obtain ⟨l, R, h1, h2, h3, h4⟩ := h
  refine ⟨l, R, lk_ne (ne_of h1 hp (fun z => by cases z)) h1, lk_ne (fun e => ?_) h2, h3.put hp, h4⟩
  subst e
  rw [h2] at hp
  cases hp
  obtain ⟨z, m, c, rfl, _⟩ := hL
  obtain ⟨b, r', e, _⟩ := h3.2 0 _ rfl
  cases e
theorem KindAt.fr {H H' : Hp} {k p : Addr} {lo hi n : Int} {rs : List R3} {Lp : List V} (h : KindAt H k lo hi rs) (hp : H p = some (.lst Lp)) (hL : PoolL Lp n) (f : Fr p H H') : KindAt H' k lo hi rs := by
  obtain ⟨l, R, h1, h2, h3, h4⟩ := h
  refine ⟨l, R, f _ _ h1 (ne_of h1 hp (fun z => by cases z)), f _ _ h2 (fun e => ?_), ⟨h3.1, fun i v e => ?_⟩, h4⟩
  · subst e
    rw [h2] at hp
    cases hp
    obtain ⟨z, m, c, rfl, _⟩ := hL
    obtain ⟨b, r', e, _⟩ := h3.2 0 _ rfl
    cases e
  · obtain ⟨a, r, q1, q2, q3, q4⟩ := h3.2 i v e
    exact ⟨a, r, q1, q2, f _ _ q3 (ne_of q3 hp (fun z => by cases z)), q4⟩
def spAny : Sp := fun vs H Q _ => ∃ (p : Addr) (L : List V) (n wd far : Int), vs = [.ref p, .int wd, .int far] ∧ H p = some (.lst L) ∧ PoolL L n ∧ n ≤ 1000000 ∧ 1 ≤ wd ∧ wd ≤ 40 ∧ 2 ≤ far ∧ far ≤ 20 ∧
  ∀ (kd : Addr) (L' : List V) (rs : List R3) (lo hi : Int) (H' : Hp), Fr p H H' → H' p = some (.lst L') → PoolL L' (n + 60) → KindAt H' kd lo hi rs → lo ≤ hi → hi ≤ lo + far → Fine rs → (∀ r ∈ rs, r.1 ≤ wd) → rs.length ≤ 3 → Q (.ref kd) H'
section
variable {P : Program} {w : World} {K : PySem.W.Frag} {mg : Str → Option Value} {base : Heap}
set_option maxHeartbeats 4000000 in
theorem ok_any {f : Addr} {fd : FuncData} (F : Fun K "_law_any" "_law_any" s_any f fd) (T : Blt mg) (GD : CalN P w K mg base 1 "_law_draw" spDraw) : FnOk P w K mg base CX0 2 f fd ["pool", "wide", "far"] spAny := by
  refine F.ok sc_any (fun vs H Q E h => ?_) (fun cdv A outer s H vs Q E hr h => ?_)
  · obtain ⟨p, L, n, wd, far, rfl, _⟩ := h
    rfl
  · obtain ⟨p, L, n, wd, far, rfl, hp, hL, hn, w1, w2, f1, f2, k⟩ := h
    refine ⟨_, (pss_cons (ps_par (i := 3) (j := 4) (by rfl) sc_any.nd rfl rfl (by decide) rfl rfl (pa_cons (pe_ix ix_list (pe_lst (pa_cons pe_int (pa_cons pe_int (pa_cons (pe_un un_neg pe_int) (pa_cons (pe_op op_sub pe_int (pe_cN GD hr (by decide) (by rfl) (pa_cons (pv 0) (pa_cons (pv 2) pa_nil)))) pa_nil))))) (pe_cN GD hr (by decide) (by rfl) (pa_cons (pv 0) (pa_cons pe_int pa_nil))) (fun _ _ => rfl)) (pa_cons (pe_lst pa_nil) pa_nil)) (by rfl))
      (pss_cons (ps_set (i := 5) sc_any.nd rfl (Or.inl rfl) (pe_op op_add (pe_op op_add (pv 3) pe_int) (pe_op op_mulW (pe_cN GD hr (by decide) (by rfl) (pa_cons (pv 0) (pa_cons pe_int pa_nil))) (pe_cN GD hr (by decide) (by rfl) (pa_cons (pv 0) (pa_cons (pv 2) pa_nil))))))
      (pss_cons (ps_for PassesOwn.never rfl (pi_range1 (by rfl) T.n_range (pa_cons (pe_cN GD hr (by decide) (by rfl) (pa_cons (pv 0) (pa_cons pe_int pa_nil))) pa_nil)) (pg_name (i := 6) sc_any.nd rfl (Or.inl rfl)) 
        (pss_cons (ps_set (i := 7) sc_any.nd rfl (Or.inl rfl) (pe_op op_add pe_int (pe_cN GD hr (by decide) (by rfl) (pa_cons (pv 0) (pa_cons (pv 1) pa_nil)))))
        (pss_cons (ps_set (i := 8) sc_any.nd rfl (Or.inl rfl) (pe_op op_add (pe_op op_mulW (pv 7) (pv 3)) (pe_cN GD hr (by decide) (by rfl) (pa_cons (pv 0) (pa_cons (pe_op op_add (pe_op op_mulW (pv 7) (pe_op op_sub (pv 5) (pv 3))) pe_int) pa_nil)))))
        (pss_one (ps_expr (pe_bm PySem.F.plainAttrs_list PySem.F.slot_list_append PySem.F.type_list_append mt_append (pv 4) (pa_cons (pe_tup (pa_cons (pv 7) (pa_cons (pv 8) (pa_cons (pe_op op_add (pv 8) (pe_ix ix_list (pe_lst (pa_cons pe_int (pa_cons pe_int (pa_cons (pe_cN GD hr (by decide) (by rfl) (pa_cons (pv 0) (pa_cons pe_int pa_nil))) (pa_cons (pe_cN GD hr (by decide) (by rfl) (pa_cons (pv 0) (pa_cons (pe_op op_mulW pe_int (pv 7)) pa_nil))) pa_nil))))) (pe_cN GD hr (by decide) (by rfl) (pa_cons (pv 0) (pa_cons pe_int pa_nil))) (fun _ _ => rfl))) pa_nil)))) pa_nil)))))))
      (pss_one (ps_ret (pe_tup (pa_cons (pv 3) (pa_cons (pv 5) (pa_cons (pv 4) pa_nil))))))))), ?_⟩
    wtm_at "ev_go"
    refine rd_draw (by wtm_at "ev_lk") hL (by omega) (by omega) (lt2000 (by omega)) (fun d1 Ld1 ad1 bd1 hLd1 => ?_)
    wtm_at "ev_go"
    intro q1 hq1
    have nq1 := hq1
    simp only [upd_none] at nq1
    repeat obtain ⟨_, nq1⟩ := nq1
    wtm_at "ev_go"
    refine rd_draw (by wtm_at "ev_lk") hLd1 (by omega) (by decide) (by decide +kernel) (fun d2 Ld2 ad2 bd2 hLd2 => ?_)
    wtm_at "ev_go"
    obtain ⟨lo, mlo, elo⟩ := at_intM (ns := [0, 0, -1, 0 - d1]) ad2 bd2
    have clo : -20 ≤ lo ∧ lo ≤ 0 := by
      simp only [List.mem_cons, List.not_mem_nil, or_false] at mlo
      omega
    refine rd_ixL (SqL.of (by wtm_at "ev_lk")) elo ?_
    wtm_at "ev_go"
    intro l hl
    have nl := hl
    simp only [upd_none] at nl
    repeat obtain ⟨_, nl⟩ := nl
    wtm_at "ev_go"
    refine rd_draw (by wtm_at "ev_lk") hLd2 (by omega) (by decide) (by decide +kernel) (fun d3 Ld3 ad3 bd3 hLd3 => ?_)
    wtm_at "ev_go"
    refine rd_draw (by wtm_at "ev_lk") hLd3 (by omega) (by omega) (lt2000 (by omega)) (fun d4 Ld4 ad4 bd4 hLd4 => ?_)
    have n3 : Num d3 := num_of (by omega)
    have n4 : Num d4 := num_of (by omega)
    wtm_at "ev_go"
    have z0 : 0 ≤ d3 * d4 := Int.mul_nonneg ad3 ad4
    have z1 : d3 * d4 ≤ 1 * (far - 1) := Int.mul_le_mul (by omega) (by omega) ad4 (by decide)
    have ch : lo + 1 ≤ lo + 1 + d3 * d4 ∧ lo + 1 + d3 * d4 ≤ lo + far := by omega
    generalize lo + 1 + d3 * d4 = hi at ch ⊢
    refine rd_draw (by wtm_at "ev_lk") hLd4 (by omega) (by decide) (by decide +kernel) (fun d5 Ld5 ad5 bd5 hLd5 => ?_)
    wtm_at "ev_go"
    have num_lo : Num lo := num_of (by omega)
    have num_w : Num (hi - lo) := num_of (by omega)
    have num_20 : Num 20 := num_of (by decide)
    refine rd_forR (fun i σ' H' => ∃ (x6 x7 x8 : Option V) (L' R : List V) (rs : List R3), σ' = [some (.ref p), some (.int wd), some (.int far), some (.int lo), some (.ref l), some (.int hi), x6, x7, x8] ∧
      H' p = some (.lst L') ∧ PoolL L' (n + 5 + (i : Int) * 5) ∧ Fr p H H' ∧ H' l = some (.lst R) ∧ RlR H' R rs ∧ rs.length = i ∧ Fine rs ∧ ∀ r ∈ rs, r.1 ≤ wd)
      ⟨_, _, _, Ld5, [], [], rfl, by wtm_at "ev_lk", hLd5.le (by omega), fun b o e nb => by wtm_at "ev_lk", by wtm_at "ev_lk", ⟨rfl, fun i v e => by simp at e⟩, rfl, fun j r e => (by simp at e), fun r hr => (by cases hr)⟩ ?_ ?_
    · rintro i σ' H' hlt ⟨x6, x7, x8, L', R, rs, rfl, hp', hL', fr, hl', hR, hlen, hF, hW⟩
      wtm_at "ev_go"
      refine rd_draw (by wtm_at "ev_lk") hL' (by omega) (by omega) (lt2000 (by omega)) (fun e1 Le1 ae1 be1 hLe1 => ?_)
      have num_s : Num (1 + e1) := num_of (by omega)
      have cs : 1 ≤ 1 + e1 ∧ 1 + e1 ≤ wd := by omega
      wtm_at "ev_go"
      generalize 1 + e1 = size at num_s cs ⊢
      have W0 : 0 ≤ size * (hi - lo) := Int.mul_nonneg (by omega) (by omega)
      have W1 : size * (hi - lo) ≤ 40 * 20 := Int.mul_le_mul (by omega) (by omega) (by omega) (by decide)
      have V0 : -800 ≤ size * lo := by
        have a := Int.mul_le_mul_of_nonneg_left clo.1 (show 0 ≤ size by omega)
        omega
      have V1 : size * lo ≤ 0 := by
        have a := Int.mul_le_mul_of_nonneg_left clo.2 (show 0 ≤ size by omega)
        omega
      refine rd_draw (by wtm_at "ev_lk") hLe1 (by omega) (by omega) (lt2000 (by omega)) (fun e2 Le2 ae2 be2 hLe2 => ?_)
      wtm_at "ev_go"
      refine rd_draw (by wtm_at "ev_lk") hLe2 (by omega) (by decide) (by decide +kernel) (fun e3 Le3 ae3 be3 hLe3 => ?_)
      wtm_at "ev_go"
      refine rd_draw (by wtm_at "ev_lk") hLe3 (by omega) (by omega) (lt2000 (by omega)) (fun e4 Le4 ae4 be4 hLe4 => ?_)
      wtm_at "ev_go"
      intro q3 hq3
      have nq3 := hq3
      simp only [upd_none] at nq3
      repeat obtain ⟨_, nq3⟩ := nq3
      wtm_at "ev_go"
      refine rd_draw (by wtm_at "ev_lk") hLe4 (by omega) (by decide) (by decide +kernel) (fun e5 Le5 ae5 be5 hLe5 => ?_)
      wtm_at "ev_go"
      obtain ⟨z7, m7, g7⟩ := at_intM (ns := [0, 1, e3, e4]) ae5 be5
      have c7 : 0 ≤ z7 ∧ z7 ≤ 1000 := by
        simp only [List.mem_cons, List.not_mem_nil, or_false] at m7
        omega
      refine rd_ixL (SqL.of (by wtm_at "ev_lk")) g7 ?_
      wtm_at "ev_go"
      generalize hfew : size * lo + e2 = few
      have cf : -800 ≤ few ∧ few ≤ 1000 := by omega
      intro q5 hq5
      have nq5 := hq5
      simp only [upd_none] at nq5
      repeat obtain ⟨_, nq5⟩ := nq5
      wtm_at "ev_go"
      have hRl : R.length ≤ 100 := by rw [hR.1]; omega
      refine rd_append (by wtm_at "ev_lk") (by omega) ?_
      wtm_at "ev_go"
      have r1 := (hR.put (o := .lst Le4) hp').mono (Same.new (o := .lst [.int 0, .int 1, .int e3, .int e4]) hq3)
      have r2 := (r1.put (p := p) (o := .lst Le5) (xs := Le4) (by wtm_at "ev_lk")).mono (Same.new (o := .tup [.int size, .int few, .int (few + z7)]) hq5)
      have r4 := (r2.add upd_same num_s (num_of (by omega)) (num_of (by omega))).put (p := l) (o := .lst (R ++ [.ref q5])) (xs := R) (by wtm_at "ev_lk")
      refine ⟨_, _, _, Le5, R ++ [.ref q5], rs ++ [(size, few, few + z7)], rfl, by wtm_at "ev_lk", hLe5.le (by omega), fun b o e nb => ?_, by wtm_at "ev_lk", r4, by rw [List.length_append, hlen]; rfl, fun j r e => ?_, fun r hr => ?_⟩
      · have nbl : b ≠ l := ne_of_none e nl
        have hb := fr b o e nb
        wtm_at "ev_lk"
      · rw [List.getElem?_append] at e
        by_cases hj : j < rs.length
        · rw [if_pos hj] at e
          exact hF j r e
        · rw [if_neg hj] at e
          rw [List.mem_singleton.mp (List.mem_of_getElem? e)]
          unfold okR
          rw [decide_eq_true (show 1 ≤ size from cs.1), decide_eq_true (show few ≤ few + z7 by omega)]
          rfl
      · rcases List.mem_append.mp hr with hr | hr
        · exact hW r hr
        · rw [List.mem_singleton.mp hr]
          exact cs.2
    · rintro σ' H' ⟨x6, x7, x8, L', R, rs, rfl, hp', hL', fr, hl', hR, hlen, hF, hW⟩
      wtm_at "ev_go"
      intro kd hkd
      have sK := Same.new (o := .tup [V.int lo, .int hi, .ref l]) hkd
      exact k kd L' rs lo hi _ (fr.same sK) (sK _ _ hp') (hL'.le (by omega)) ⟨l, R, upd_same, sK _ _ hl', hR.mono sK, by rw [hR.1]; omega, by omega, by omega⟩ (by omega) (by omega) hF hW (by omega)
end
end Ev

namespace Ev
open PySem PySem.Spec PyProof.Rows L2
local macro_rules | `(tactic| wtm_at "ev_ne") => `(tactic| first | assumption | exact Ne.symm (by assumption))
local macro_rules | `(tactic| wtm_at "ev_lk") => `(tactic| first | assumption | exact upd_same | (refine lk_new' (by assumption) ?_; wtm_at "ev_lk") | (refine lk_ne (by wtm_at "ev_ne") ?_; wtm_at "ev_lk") | (refine same_lk (by assumption) ?_; wtm_at "ev_lk"))
local macro_rules | `(tactic| wtm_at "ev_sm") => `(tactic| first | assumption | exact Same.refl _ | (refine same_new ?_ (by assumption); wtm_at "ev_sm") | (refine Same.trans ?_ (by assumption); wtm_at "ev_sm"))
local macro_rules | `(tactic| wtm_at "ev_no") => `(tactic| first | assumption | exact no_back (by assumption) | (refine no_new ?_ (by wtm_at "ev_ne"); wtm_at "ev_no"))
local macro_rules | `(tactic| wtm_at "ev_sq") => `(tactic| first | assumption | exact SqL.of (by wtm_at "ev_lk") | exact SqT.of (by wtm_at "ev_lk"))
local macro_rules | `(tactic| wtm_at "ev_step") => `(tactic| with_reducible first
  | refine rd_seq ?_ | refine rd_next ?_ | refine rd_ret ?_ | refine rd_retN ?_ | refine rd_if ?_ | refine rd_drop ?_ | refine rd_asg ?_ | refine rd_name ?_ | refine rd_gsub ?_ | refine rd_gnil ?_ | refine rd_gcons ?_
  | refine rd_c ?_ | refine rd_op ?_ | refine rd_un ?_ | refine rd_rI0 ?_ | refine rd_rU ?_ | refine rd_tup ?_ | refine rd_lst ?_ | refine rd_nil ?_ | refine rd_cons ?_ | refine rd_cb ?_ | refine rd_call ?_ | refine rd_sl ?_ | refine rd_no ?_ | refine rd_part ?_
  | refine rd_test ?_ | refine rd_tB ?_ | refine rd_not ?_ | refine rd_and ?_ | refine rd_or ?_ | refine rd_notV ?_ | refine rd_andV ?_ | refine rd_orV ?_ | refine rd_ifE ?_ | refine rd_bl ?_ | refine rd_ex ?_
  | refine rd_rng1 ?_ | refine rd_overL ?_ | refine rd_overT ?_ | refine rd_forA ?_ | refine rd_forB ?_ | refine rd_forC ?_ | refine rd_lcA ?_ | refine rd_lcB ?_ | refine rd_lcC ?_ | refine rd_bm ?_ | refine rd_mkv ?_ | refine rd_xv ?_
  | refine rd_T ?_ | refine rd_F ?_ | refine rd_True ?_ | refine rd_False ?_ | refine rd_int ?_ | refine rd_intB ?_ | refine rd_one ?_ | refine rd_two ?_)
local macro_rules | `(tactic| wtm_at "ev_cond") => `(tactic| first | assumption | exact (show (0 : Int) < _ by decide) | exact (show (0 : Int) < _ by omega) | exact Or.inl ⟨by decide, by decide⟩ | exact Or.inr ⟨by decide, by decide⟩ | exact pow_cond (by decide) (by decide) (by first | decide | omega) (by first | decide | omega) | exact wide_div (b := 2000) (by first | assumption | decide | omega) (by first | decide | omega) (by decide) (by decide))
local macro_rules | `(tactic| wtm_at "ev_side") => `(tactic| first
  | ((with_reducible apply rd_var); exact rfl)
  | ((with_reducible apply rd_ixL); (wtm_at "ev_sq"); exact rfl)
  | ((with_reducible apply rd_ixT); (wtm_at "ev_sq"); exact rfl)
  | ((with_reducible apply rd_eq); exact rfl)
  | ((with_reducible apply rd_ne); exact rfl)
  | ((with_reducible apply rd_setL); (wtm_at "ev_lk"); exact rfl)
  | ((with_reducible apply rd_gtup); (wtm_at "ev_sq"); exact rfl)
  | ((with_reducible apply rd_len); (wtm_at "ev_sq"))
  | ((with_reducible apply rd_lenT); (wtm_at "ev_sq"))
  | ((with_reducible apply rd_rg); (first | decide | omega); (first | decide | omega))
  | ((with_reducible apply rd_atL); (wtm_at "ev_sq"))
  | ((with_reducible apply rd_atT); (wtm_at "ev_sq"))
  | ((with_reducible apply rd_tyL); (wtm_at "ev_sq"))
  | ((with_reducible apply rd_cat); (wtm_at "ev_lk"); (wtm_at "ev_lk"); exact Nat.le_of_ble_eq_true rfl)
  | ((with_reducible apply rd_size); exact Nat.le_of_ble_eq_true rfl)
  | ((with_reducible apply rd_rI); wtm_at "ev_cond"))
local macro_rules | `(tactic| wtm_at "ev_rd") => `(tactic| repeat (first | wtm_at "ev_step" | wtm_at "ev_side"))
local macro_rules | `(tactic| wtm_at "ev_go") => `(tactic| ((try simp only [L2.start, List.map_cons, List.map_nil, List.length_cons, List.length_nil, Nat.reduceAdd, Nat.reduceSub, List.replicate_succ, List.replicate_zero, List.cons_append, List.nil_append]); wtm_at "ev_rd"; (try simp only [List.set_cons_zero, List.set_cons_succ, upd_upd])))
local macro_rules | `(tactic| wtm_at "ev_step") => `(tactic| with_reducible first | refine rd_par ?_ | refine rd_par2 ?_ | refine rd_forD ?_)
local macro_rules | `(tactic| wtm_at "ev_side") => `(tactic| ((with_reducible apply rd_enumL); (wtm_at "ev_sq")))
local macro_rules | `(tactic| wtm_at "ev_cond") => `(tactic| exact Num.mul (by assumption) (by assumption))
local macro_rules | `(tactic| wtm_at "ev_step") => `(tactic| with_reducible first | refine rd_fld ?_ | refine rd_sfld ?_ | refine rd_tmko ?_ | refine rd_meth0 ?_ | refine rd_make ?_ | refine rd_prop ?_ | refine rd_callK0 ?_)

/-- what is told of a conflict, as data -/
inductive ConfD (B : List R3) : PyData → V → Prop
  | no : NoConf B → ConfD B .none .non
  | at_ (i j : Nat) (p : Addr) : FirstConf B i j → ConfD B (.tuple [.int i, .int j]) (.ref p)
theorem ConfV.data {K : PySem.W.Frag} {B : List R3} {v : V} {H : Hp} (h : ConfV B v H) : ∃ D, ConfD B D v ∧ Dp K H v D := by
  rcases h with ⟨rfl, n⟩ | ⟨p, i, j, rfl, e, f⟩
  · exact ⟨_, .no n, .non⟩
  · exact ⟨_, .at_ i j p f, .tup (SqT.of e) (.cons (.int _) (.cons (.int _) .nil))⟩
theorem ConfD.eq {B : List R3} {D D' : PyData} {v v' : V} (h : ConfD B D v) (g : ConfD B D' v') : D = D' ∧ decide (v = .non) = decide (v' = .non) := by
  cases h with
  | no n =>
    cases g with
    | no _ => exact ⟨rfl, rfl⟩
    | at_ i j p f => exact absurd n f.not
  | at_ i j p f =>
    cases g with
    | no n => exact absurd n f.not
    | at_ i' j' p' f' =>
      obtain ⟨rfl, rfl⟩ := f.eq f'
      refine ⟨rfl, ?_⟩
      rw [decide_eq_false (fun z => by cases z), decide_eq_false (fun z => by cases z)]
theorem ConfD.has {B : List R3} {D : PyData} {v : V} (h : ConfD B D v) : (NoConf B → decide (v = .non) = true) ∧ (¬ NoConf B → decide (v = .non) = false) := by
  cases h with
  | no n => exact ⟨fun _ => by simp, fun k => absurd n k⟩
  | at_ i j p f => exact ⟨fun n => absurd n f.not, fun _ => by simp⟩
theorem Sh.non : Sh .none 10 0 := ⟨by simp only [PyData.showable], by simp only [PyData.hasDict], by simp [PyData.depth], by decide +kernel⟩
theorem Sh.bool (b : Bool) : Sh (.bool b) 10 0 := ⟨by simp only [PyData.showable], by simp only [PyData.hasDict], by simp [PyData.depth], by cases b <;> decide +kernel⟩
theorem ConfD.sh {B : List R3} {D : PyData} {v : V} (h : ConfD B D v) (hB : B.length ≤ 1000) : Sh D 24 1 := by
  cases h with
  | no n => exact Sh.non.mono (by decide) (by decide)
  | at_ i j p f =>
    obtain ⟨r, s, h1, h2, _⟩ := f
    have a := (List.getElem?_eq_some_iff.mp h1).1
    have b := (List.getElem?_eq_some_iff.mp h2).1
    exact Sh.tup (n := 10) (k := 0) (ds := []) fun x hx => by
      simp only [List.mem_cons, List.not_mem_nil, or_false] at hx
      rcases hx with rfl | rfl
      · exact Sh.int (by omega)
      · exact Sh.int (by omega)
theorem conf3_sh {B : List R3} {D : PyData} {v : V} {b : Bool} (h : ConfD B D v) (hB : B.length ≤ 1000) : Sh (.list [D, .bool b, D]) 200 2 := (Sh.list (n := 24) (k := 1) (ds := [D, .bool b, D]) fun d hd => by
  simp only [List.mem_cons, List.not_mem_nil, or_false] at hd
  rcases hd with rfl | rfl | rfl
  · exact h.sh hB
  · exact (Sh.bool b).mono (by decide) (by decide)
  · exact h.sh hB).mono (Nat.le_of_ble_eq_true rfl) (by decide)
theorem eqv_nil (F : List (List Int)) : PyData.eqv (.list (F.map linD)) (.list []) = decide (F = []) := by
  cases F with
  | nil => simp [PyData.eqv, PyData.eqvAll]
  | cons x F => simp [PyData.eqv, PyData.eqvAll]
def spRight : Sp := fun vs H Q _ => ∃ (p : Addr) (L : List V) (n : Int), vs = [.ref p] ∧ H p = some (.lst L) ∧ PoolL L n ∧ n ≤ 100000 ∧ ∀ (H' : Hp) (L' : List V), Fr p H H' → H' p = some (.lst L') → PoolL L' (n + 2000) → Q (.bl true) H'
section
variable {P : Program} {w : World} {K : PySem.W.Frag} {mg : Str → Option Value} {base : Heap} {fI cD cR cB fB fN fHr fC : Addr}
set_option maxHeartbeats 4000000 in
theorem ok_right {f : Addr} {fd fdHr fdC : FuncData} (F : Fun K "_law_right" "_law_right" s_right f fd) (T : TxB K mg fI cD cR cB fB fN) (GAN : CalN P w K mg base 2 "_law_any" spAny) (GM : CalN P w K mg base 6 "_law_made" (spMade cB)) (GDU : CalN P w K mg base 2 "_law_due" (spDue K)) (GST : CalN P w K mg base 4 "_law_states" spST)
    (mH : Meth K cB "has_rows" fHr) (GHr : FnOk P w K mg base CX0 1 fHr fdHr ["self"] (spHas cB)) (bHr : Binds K fdHr ["self"] []) (mC : Meth K cB "conflict" fC) (GCf : FnOk P w K mg base CX0 1 fC fdC ["self"] (spCfl cB)) (bCf : Binds K fdC ["self"] []) : FnG P w K mg base CX0 8 f fd ["pool"] spRight := by
  refine fnG_of F sc_right (fun vs H Q E h => ?_) (fun cdv A outer s H vs Q E hgu hr h => ?_)
  · obtain ⟨p, L, n, rfl, _⟩ := h
    rfl
  · obtain ⟨p, L, n, rfl, hp, hL, hn, k⟩ := h
    refine ⟨_, (pss_cons (ps_par (i := 1) (j := 2) (by rfl) sc_right.nd rfl rfl (by decide) rfl rfl (pa_cons (pe_cN GAN hr (by decide) (by rfl) (pa_cons (pv 0) (pa_cons pe_int (pa_cons pe_int pa_nil)))) (pa_cons (pe_cN GAN hr (by decide) (by rfl) (pa_cons (pv 0) (pa_cons pe_int (pa_cons pe_int pa_nil)))) pa_nil)) (by rfl))
      (pss_cons (ps_for PassesOwn.never rfl (pi_tup (pe_tup (pa_cons (pv 1) (pa_cons (pv 2) pa_nil)))) (pg_name (i := 3) sc_right.nd rfl (Or.inl rfl)) 
        (pss_cons (ps_par (i := 4) (j := 5) (by rfl) sc_right.nd rfl rfl (by decide) rfl rfl (pa_cons (pe_cN GM hr (by decide) (by rfl) (pa_cons (pv 3) pa_nil)) (pa_cons (pe_cN GDU hr (by decide) (by rfl) (pa_cons (pv 3) pa_nil)) pa_nil)) (by rfl))
        (pss_one (ps_if (pt_cmpR op_ne (pe_callB (call_repr_data hgu (hun hr)) (by rfl) T.b.n_repr boot_repr (pa_cons (pe_lst (pa_cons (pe_meth0 (pv 4) T.cls mC GCf (hr.mono (by decide)) bCf .nil pass0) (pa_cons (pe_meth0 (pv 4) T.cls mH GHr (hr.mono (by decide)) bHr .nil pass0) (pa_cons (pe_meth0 (pv 4) T.cls mC GCf (hr.mono (by decide)) bCf .nil pass0) pa_nil)))) pa_nil)) (pe_callB (call_repr_data hgu (hun hr)) (by rfl) T.b.n_repr boot_repr (pa_cons (pe_lst (pa_cons (pv 5) (pa_cons (pe_cmpR op_isN (pv 5) pe_non (nomark _)) (pa_cons (pv 5) pa_nil)))) pa_nil)) (nomark _)) 
          (pss_one (ps_ret pe_bl)) pss_nil))))
      (pss_one (ps_ret (pe_cmpR op_eq (pe_meth0 (pe_cN GM hr (by decide) (by rfl) (pa_cons (pv 2) pa_nil)) T.cls mH GHr (hr.mono (by decide)) bHr .nil pass0) (pe_cmpR (op_neD (hun64 hr)) (pe_cN GST hr (by decide) (by rfl) (pa_cons (pv 2) pa_nil)) (pe_lst pa_nil) (nomark _)) (nomark _)))))), ?_⟩
    wtm_at "ev_go"
    refine ⟨p, L, n, 40, 20, rfl, hp, hL, by omega, by decide, by decide, by decide, by decide, fun k1 L1 rs1 lo1 hi1 H1 fr1 hp1 hL1 ka1 o1 g1 fine1 w1 len1 => ?_⟩
    wtm_at "ev_go"
    refine ⟨p, L1, n + 60, 4, 2, rfl, hp1, hL1, by omega, by decide, by decide, by decide, by decide, fun k2 L2' rs2 lo2 hi2 H2 fr2 hp2 hL2 ka2 o2 g2 fine2 w2 len2 => ?_⟩
    have ka1' := ka1.fr hp1 hL1 fr2
    have frA := fr1.trans fr2
    wtm_at "ev_go"
    intro t ht
    wtm_at "ev_go"
    have st := Same.new (o := .tup [V.ref k1, .ref k2]) ht
    have htt : upd H2 t (.tup [V.ref k1, .ref k2]) t = some (.tup [V.ref k1, .ref k2]) := upd_same
    have two : ∀ (i : Nat) x, [V.ref k1, V.ref k2][i]? = some x → ∃ (kk : Addr) (lo hi : Int) (rs : List R3), x = .ref kk ∧ KindAt (upd H2 t (.tup [V.ref k1, .ref k2])) kk lo hi rs ∧ lo ≤ hi ∧ Fine rs ∧ rs.length ≤ 3 := by
      intro i x e
      rcases i with _ | _ | i
      · cases e
        exact ⟨k1, lo1, hi1, rs1, rfl, ka1'.mono st, o1, fine1, len1⟩
      · cases e
        exact ⟨k2, lo2, hi2, rs2, rfl, ka2.mono st, o2, fine2, len2⟩
      · cases e
    refine rd_forT (fun i σ' H' => ∃ (x3 x4 x5 : Option V), σ' = [some (.ref p), some (.ref k1), some (.ref k2), x3, x4, x5] ∧ Same (upd H2 t (.tup [V.ref k1, .ref k2])) H') ⟨_, _, _, rfl, Same.refl _⟩ (fun i σ' H' _ h => by obtain ⟨_, _, _, _, z⟩ := h; exact SqT.of (z _ _ htt)) ?_ ?_
    · rintro i x σ' H' hx ⟨x3, x4, x5, rfl, sm⟩
      obtain ⟨kk, lo, hi, rs, rfl, ka0, oo, fine, hlen⟩ := two i x hx
      have ka := ka0.mono sm
      obtain ⟨l, R, hk, hl, hR, hle, c1, c2⟩ := id ka
      have hB1000 : ((1, lo, hi) :: rs).length ≤ 1000 := by rw [List.length_cons]; omega
      wtm_at "ev_go"
      refine ⟨kk, l, lo, hi, R, rs, rfl, hk, hl, hR, by omega, num_of (by omega), num_of (by omega), oo, fine, fun a H3 s3 na bk => ?_⟩
      wtm_at "ev_go"
      refine ⟨kk, lo, hi, rs, rfl, ka.mono s3, fun v H4 s4 cv => ?_⟩
      wtm_at "ev_go"
      have bk4 := bk.mono s4
      obtain ⟨dx, l0, fs, v0, h1, h2, q1, q2, q3, q4, q5, q6, q7⟩ := id bk4
      refine ⟨a, dx, fs, rfl, h1, q7 _ (by decide +kernel), ?_⟩
      wtm_at "ev_go"
      refine ⟨a, lo, hi, R, rs, rfl, bk4, fun u1 cu1 => ?_⟩
      wtm_at "ev_go"
      refine ⟨a, dx, fs, rfl, h1, q7 _ (by decide +kernel), ?_⟩
      wtm_at "ev_go"
      obtain ⟨D, cd, dpv⟩ := cv.data (K := K)
      obtain ⟨D1, cd1, dp1⟩ := cu1.data (K := K)
      obtain ⟨rfl, ed1⟩ := cd.eq cd1
      have has := cd.has
      generalize hb : decide (v = V.non) = bb at has ed1
      have go : ∀ b : Bool, b = bb → ∃ (a' : Addr) (dx : Addr) (fs : List (Str × V)), V.ref a = .ref a' ∧ H4 a' = some (.ins cB dx fs) ∧ fs.lookup ("conflict" : Str) = none := fun b _ => ⟨a, dx, fs, rfl, h1, q7 _ (by decide +kernel)⟩
      refine ⟨a, lo, hi, R, rs, rfl, bk4, fun nc => ?_, fun nn => ?_⟩
      · have eb := has.1 nc
        wtm_at "ev_go"
        refine ⟨a, dx, fs, rfl, h1, q7 _ (by decide +kernel), ?_⟩
        wtm_at "ev_go"
        refine ⟨a, lo, hi, R, rs, rfl, bk4, fun u2 cu2 => ?_⟩
        obtain ⟨D2, cd2, dp2⟩ := cu2.data (K := K)
        obtain ⟨rfl, ed2⟩ := cd.eq cd2
        wtm_at "ev_go"
        intro q hq
        have sq := Same.new (o := .lst [u1, V.bl true, u2]) hq
        wtm_at "ev_go"
        refine rd_reprS (d := .list [D, .bool true, D]) (.lst (SqL.of upd_same) (.cons (dp_mono sq _ _ dp1) (.cons (.bl _) (.cons (dp_mono sq _ _ dp2) .nil)))) (conf3_sh cd hB1000) (by decide) (by decide) ?_
        wtm_at "ev_go"
        refine ⟨trivial, ?_⟩
        rw [hb, eb]
        wtm_at "ev_go"
        intro q' hq'
        have sq' := sq.trans (Same.new (o := .lst [v, V.bl true, v]) hq')
        wtm_at "ev_go"
        refine rd_reprS (d := .list [D, .bool true, D]) (.lst (SqL.of upd_same) (.cons (dp_mono sq' _ _ dpv) (.cons (.bl _) (.cons (dp_mono sq' _ _ dpv) .nil)))) (conf3_sh cd hB1000) (by decide) (by decide) ?_
        wtm_at "ev_go"
        rw [if_neg (by simp)]
        wtm_at "ev_go"
        exact ⟨_, _, _, rfl, ((sm.trans s3).trans s4).trans sq'⟩
      · have eb := has.2 nn
        wtm_at "ev_go"
        refine ⟨a, dx, fs, rfl, h1, q7 _ (by decide +kernel), ?_⟩
        wtm_at "ev_go"
        refine ⟨a, lo, hi, R, rs, rfl, bk4, fun u2 cu2 => ?_⟩
        obtain ⟨D2, cd2, dp2⟩ := cu2.data (K := K)
        obtain ⟨rfl, ed2⟩ := cd.eq cd2
        wtm_at "ev_go"
        intro q hq
        have sq := Same.new (o := .lst [u1, V.bl false, u2]) hq
        wtm_at "ev_go"
        refine rd_reprS (d := .list [D, .bool false, D]) (.lst (SqL.of upd_same) (.cons (dp_mono sq _ _ dp1) (.cons (.bl _) (.cons (dp_mono sq _ _ dp2) .nil)))) (conf3_sh cd hB1000) (by decide) (by decide) ?_
        wtm_at "ev_go"
        refine ⟨trivial, ?_⟩
        rw [hb, eb]
        wtm_at "ev_go"
        intro q' hq'
        have sq' := sq.trans (Same.new (o := .lst [v, V.bl false, v]) hq')
        wtm_at "ev_go"
        refine rd_reprS (d := .list [D, .bool false, D]) (.lst (SqL.of upd_same) (.cons (dp_mono sq' _ _ dpv) (.cons (.bl _) (.cons (dp_mono sq' _ _ dpv) .nil)))) (conf3_sh cd hB1000) (by decide) (by decide) ?_
        wtm_at "ev_go"
        rw [if_neg (by simp)]
        wtm_at "ev_go"
        exact ⟨_, _, _, rfl, ((sm.trans s3).trans s4).trans sq'⟩
    · rintro σ' H' ⟨x3, x4, x5, rfl, sm⟩
      have sm2 := st.trans sm
      have ka := ka2.mono sm2
      obtain ⟨l, R, hk, hl, hR, hle, c1, c2⟩ := id ka
      wtm_at "ev_go"
      refine ⟨k2, l, lo2, hi2, R, rs2, rfl, hk, hl, hR, by omega, num_of (by omega), num_of (by omega), o2, fine2, fun a H3 s3 na bk => ?_⟩
      wtm_at "ev_go"
      obtain ⟨dx, l0, fs, v0, h1, h2, q1, q2, q3, q4, q5, q6, q7⟩ := id bk
      refine ⟨a, dx, fs, rfl, h1, q7 _ (by decide +kernel), ?_⟩
      wtm_at "ev_go"
      have fin : ∀ b : Bool, (NoConf ((1, lo2, hi2) :: rs2) → b = true) → (¬ NoConf ((1, lo2, hi2) :: rs2) → b = false) → ∀ (F : List (List Int)), (NoConf ((1, lo2, hi2) :: rs2) ↔ F ≠ []) → decide (V.bl b = V.bl (!decide (F = []))) = true := fun b b1 b2 F hF => by
        by_cases nc : NoConf ((1, lo2, hi2) :: rs2)
        · rw [b1 nc, decide_eq_false (hF.mp nc)]
          simp
        · rw [b2 nc, decide_eq_true (Classical.byContradiction fun h => nc (hF.mpr h))]
          simp
      refine ⟨a, lo2, hi2, R, rs2, rfl, bk, fun nc => ?_, fun nn => ?_⟩
      · wtm_at "ev_go"
        refine ⟨k2, lo2, hi2, rs2, rfl, ka.mono s3, fine2.wide, w2, o2, g2, fun pl Ls F H4 s4 hpl hLs hF => ?_⟩
        wtm_at "ev_go"
        intro z hz
        have sz := Same.new (o := .lst []) hz
        wtm_at "ev_go"
        refine ⟨.list (F.map linD), .list [], .lst (SqL.of (sz _ _ hpl)) (hLs.mono sz).all, .lst (SqL.of upd_same) .nil, lins_shaped F, by decide +kernel, ?_⟩
        rw [eqv_nil]
        wtm_at "ev_go"
        rw [fin true (fun _ => rfl) (fun h => absurd nc h) F hF]
        exact k _ L2' (frA.same (((sm2.trans s3).trans s4).trans sz)) ((((sm2.trans s3).trans s4).trans sz) _ _ hp2) (hL2.le (by omega))
      · wtm_at "ev_go"
        refine ⟨k2, lo2, hi2, rs2, rfl, ka.mono s3, fine2.wide, w2, o2, g2, fun pl Ls F H4 s4 hpl hLs hF => ?_⟩
        wtm_at "ev_go"
        intro z hz
        have sz := Same.new (o := .lst []) hz
        wtm_at "ev_go"
        refine ⟨.list (F.map linD), .list [], .lst (SqL.of (sz _ _ hpl)) (hLs.mono sz).all, .lst (SqL.of upd_same) .nil, lins_shaped F, by decide +kernel, ?_⟩
        rw [eqv_nil]
        wtm_at "ev_go"
        rw [fin false (fun h => absurd h nn) (fun _ => rfl) F hF]
        exact k _ L2' (frA.same (((sm2.trans s3).trans s4).trans sz)) ((((sm2.trans s3).trans s4).trans sz) _ _ hp2) (hL2.le (by omega))
end
/-! ### the law itself -/
def spLaw (K : PySem.W.Frag) : Sp := fun vs H Q _ => ∃ (a : Addr) (ns : List Int), vs = [.ref a] ∧ SqL K H a (ns.map V.int) ∧ ns.length ≤ 63 ∧ ∀ H', Q (.bl true) H'
section
variable {P : Program} {w : World} {K : PySem.W.Frag} {mg : Str → Option Value} {base : Heap}
theorem ok_law {f : Addr} {fd : FuncData} (F : Fun K "law" "law" s_law f fd) (T : Blt mg) (GP : CalN P w K mg base 1 "_law_pool" (spPool K)) (GR : CalG P w K mg base 8 "_law_right" spRight) : FnG P w K mg base CX0 9 f fd ["script"] (spLaw K) := by
  refine fnG_of F sc_law (fun vs H Q E h => ?_) (fun cdv A outer s H vs Q E hgu hr h => ?_)
  · obtain ⟨a, ns, rfl, _⟩ := h
    rfl
  · obtain ⟨a, ns, rfl, hS, hn, k⟩ := h
    refine ⟨_, (pss_cons (ps_for PassesOwn.never rfl (pi_range1 (by rfl) T.n_range (pa_cons (pe_callB (call_max2 rfl) (by rfl) T.n_max boot_max (pa_cons pe_int (pa_cons (pe_callB (call_min2 rfl) (by rfl) T.n_min boot_min (pa_cons pe_int (pa_cons (pe_callB call_len_seq (by rfl) T.n_len PySem.boot_len (pa_cons (pv 0) pa_nil)) pa_nil))) pa_nil))) pa_nil)) (pg_name (i := 1) sc_law.nd rfl (Or.inl rfl)) 
        (pss_cons (ps_set (i := 2) sc_law.nd rfl (Or.inl rfl) (pe_cN GP hr (by decide) (by rfl) (pa_cons (pv 0) (pa_cons (pv 1) pa_nil))))
        (pss_one (ps_for PassesOwn.never rfl (pi_range1 (by rfl) T.n_range (pa_cons pe_int pa_nil)) (pg_name (i := 3) sc_law.nd rfl (Or.inl rfl)) 
          (pss_one (ps_if (pt_not (pt_val (pe_cG GR hr (by decide) hgu (by rfl) (pa_cons (pv 2) pa_nil)))) 
            (pss_one (ps_ret pe_bl)) pss_nil))))))
      (pss_one (ps_ret pe_bl))), ?_⟩
    wtm_at "ev_go"
    generalize e : Int.toNat _ = n
    have n6 : n ≤ 6 := by
      rw [← e]
      generalize ((ns.map V.int).length : Int) = z
      by_cases z6 : z < 6
      · rw [if_pos z6]
        by_cases z1 : z > 1
        · rw [if_pos z1]
          omega
        · rw [if_neg z1]
          decide
      · rw [if_neg z6]
        decide
    clear e
    refine rd_forR (fun i σ H2 => ∃ (x1 x2 x3 : Option V), σ = [some (.ref a), x1, x2, x3] ∧ SqL K H2 a (ns.map V.int)) ⟨_, _, _, rfl, hS⟩ ?_ ?_
    · rintro i σ H2 hi ⟨x1, x2, x3, rfl, hS2⟩
      wtm_at "ev_go"
      refine ⟨a, ns, _, rfl, hS2, by omega, by omega, fun p L np hL => ?_⟩
      wtm_at "ev_go"
      refine rd_forR (fun j σ' H' => ∃ (x3 : Option V) (L' : List V), σ' = [some (.ref a), some (.int (0 + (i : Int))), some (.ref p), x3] ∧ Same H2 H' ∧ H' p = some (.lst L') ∧ PoolL L' ((j : Int) * 2000)) ⟨_, L, rfl, fun b o z => Same.new np b o z, upd_same, hL.le (by omega)⟩ ?_ ?_
      · rintro j σ' H' hj ⟨x3, L', rfl, ex, hp, hL'⟩
        wtm_at "ev_go"
        refine ⟨p, L', _, rfl, hp, hL', by omega, fun H3 L3 fr hp3 hL3 => ?_⟩
        wtm_at "ev_go"
        exact ⟨_, L3, rfl, fun b o z => fr b o (ex b o z) (ne_of_none z np), hp3, hL3.le (by omega)⟩
      · rintro σ' H' ⟨x3, L', rfl, ex, _⟩
        exact ⟨_, _, _, rfl, sqL_same hS2 ex⟩
    · rintro σ' H' ⟨x1, x2, x3, rfl, _⟩
      wtm_at "ev_go"
      exact k H'
end
end Ev

namespace Ev
open PySem PySem.Spec PyProof.Rows L2
/-! ### the end: what the written part says -/
theorem cls_mk {K : PySem.W.Frag} {h : Heap} {mg : Str → Option Value} {x : Str} {C fI : Addr} {nm q : Str} {N : Addr} {bs bm : List Value} {sl : List Str} {sub : List Value} {ab : Bool} {col : Option Bool} {dd : Option Addr} {m0 m1 m2 m3 m5 : Option Value} (X : K.In h) (G : h.Ns mainGlobals mg)
    (a : PySem.W.nsIn K mainGlobals x = some (some (.ref C)))
    (xl : K.lookup C = some (excClassObj nm q C N bs bm true sl sub ab col dd m0 m1 m2 m3 m5 "ValueError.__new__"))
    (rb : PySem.HandSPX.refsVE bm = true)
    (sa : PySem.W.findIn K (.ref C) "__setattr__" = some (some (.builtin "object.__setattr__")))
    (ec : PySem.W.subIn K (.ref C) (.type "BaseException") = some true)
    (ty : PySem.W.typeIn K (.ref C) = some (.type "type"))
    (kc : PySem.W.keepIn K (.ref C) = true)
    (i : PySem.W.findIn K (.ref C) "__init__" = some (some (.ref fI)))
    (t : PySem.W.typeIn K (.ref fI) = some (.type "function"))
    (ga : PySem.W.findIn K (.ref C) "__getattribute__" = some (some (.builtin "BaseException.__getattribute__")))
    (gg : PySem.W.findIn K (.ref C) "__getattr__" = some none)
    (hd : PySem.W.hasDictIn K C = true)
    (ac : PySem.W.findIn K (.ref C) "__class__" = some (some (.builtin "object.__class__")))
    (sn : PySem.W.specialIn K (.builtin "object.__class__") "__get__" = some (some (.builtin "getset_descriptor.__get__")))
    (tk : PySem.W.takesIn K (.builtin "object.__class__") = some true)
    (mr : PySem.W.mroIn K C (.type "object") = some true)
    (vn : PySem.W.findIn K (.ref C) "value" = some none) : ExT K mg x C fI :=
  ⟨⟨⟨nm, q, N, bs, bm, sl, sub, ab, col, dd, m0, m1, m2, m3, m5, xl, rb⟩, sa, ec, ty, kc⟩, i, t, PySem.W.mg_of X G a, ⟨ga, gg, ec, hd, ac, sn, tk, mr⟩, vn⟩

section
variable {P : Program} {w : World} {K : PySem.W.Frag} {mg : Str → Option Value} {base : Heap} {fI : Addr}
theorem ok_init {fd : FuncData} (F : Fun K "__init__" "SpanError.__init__" s_SpanError_init fI fd) : FnOk P w K mg base CX0 1 fI fd ["self", "value"] (spInit K) := by
  refine F.ok sc_SpanError_init (fun vs H Q E h => ?_) (fun cdv A outer s H vs Q E hr h => ?_)
  · obtain ⟨a, C, v, rfl, _⟩ := h
    rfl
  · obtain ⟨a, C, v, rfl, ha, hc, hn, k⟩ := h
    refine ⟨_, pss_one (ps_ost (pv 0) (pv 1)), ?_⟩
    exact ⟨_, rfl, _, rfl, a, C, rfl, hc, hn, .inl ⟨ha, fun dx n ne => k dx n ne⟩⟩
end
theorem all_mk {P : Program} {w : World} {K : PySem.W.Frag} {h : Heap} {mg : Str → Option Value} {fa cD cR cB fI fN fB fHr fC g_is_rule g_lowest_most g_first_conflict g_first_exceeded g_law_pool g_law_draw g_law_made g_law_bounds g_law_is_let g_law_states g_law_goes_on g_law_any g_law_due g_law_right g_law : Addr} (X : K.In h) (G : h.Ns mainGlobals mg) (hfa : mg "law" = some (.ref fa))
    {od0 an0 od1 an1 od2 an2 od3 an3 od4 an4 od5 an5 od6 an6 od7 an7 od8 an8 od9 an9 od10 an10 od11 an11 od12 an12 od13 an13 od14 an14 od15 an15 od16 an16 od17 an17 od18 an18 od19 an19 : Option Addr} {sl0 sl1 sl2 sl3 sl4 sl5 sl6 sl7 sl8 sl9 sl10 sl11 sl12 sl13 sl14 sl15 sl16 sl17 sl18 sl19 : Array (Option Value)} {oc0 kV0 dc0 pm0 cd0 ct0 oc1 kV1 dc1 pm1 cd1 ct1 oc2 kV2 dc2 pm2 cd2 ct2 oc3 kV3 dc3 pm3 cd3 ct3 oc4 kV4 dc4 pm4 cd4 ct4 oc5 kV5 dc5 pm5 cd5 ct5 oc6 kV6 dc6 pm6 cd6 ct6 oc7 kV7 dc7 pm7 cd7 ct7 oc8 kV8 dc8 pm8 cd8 ct8 oc9 kV9 dc9 pm9 cd9 ct9 oc10 kV10 dc10 pm10 cd10 ct10 oc11 kV11 dc11 pm11 cd11 ct11 oc12 kV12 dc12 pm12 cd12 ct12 oc13 kV13 dc13 pm13 cd13 ct13 oc14 kV14 dc14 pm14 cd14 ct14 oc15 kV15 dc15 pm15 cd15 ct15 oc16 kV16 dc16 pm16 cd16 ct16 oc17 kV17 dc17 pm17 cd17 ct17 oc18 kV18 dc18 pm18 cd18 ct18 oc19 kV19 dc19 pm19 cd19 ct19 : Value}
    (eD : ExT K mg "InvalidDays" cD fI)
    (eR : ExT K mg "InvalidRule" cR fI)
    (aB : PySem.W.nsIn K mainGlobals "Book" = some (some (.ref cB)))
    (bm : PySem.W.makesIn K cB = true)
    (bi : PySem.W.findIn K (.ref cB) "__init__" = some (some (.ref fN)))
    (bf : PySem.W.isFn K (.ref fN) = true)
    (bk : PySem.W.keepIn K (.ref cB) = true)
    (pg : PySem.W.plainGet K cB Str.empty = true)
    (hd : PySem.W.hasDictIn K cB = true)
    (po : PySem.W.plainOver K cB = true)
    (sa : PySem.W.findIn K (.ref cB) "__setattr__" = some (some (.builtin "object.__setattr__")))
    (n1 : PySem.W.findIn K (.ref cB) "_low" = some none)
    (n2 : PySem.W.findIn K (.ref cB) "_high" = some none)
    (n3 : PySem.W.findIn K (.ref cB) "_rules" = some none)
    (n4 : PySem.W.findIn K (.ref cB) "_conflict" = some none)
    (n5 : PySem.W.findIn K (.ref cB) "_sums" = some none)
    (n6 : PySem.W.findIn K (.ref cB) "_spots" = some none)
    (m_fB : PySem.W.findIn K (.ref cB) "bounds" = some (some (.ref fB)))
    (i_fB : PySem.W.isFn K (.ref fB) = true)
    (m_fHr : PySem.W.findIn K (.ref cB) "has_rows" = some (some (.ref fHr)))
    (i_fHr : PySem.W.isFn K (.ref fHr) = true)
    (m_fC : PySem.W.findIn K (.ref cB) "conflict" = some (some (.ref fC)))
    (i_fC : PySem.W.isFn K (.ref fC) = true)
    (l0 : K.lookup fI = some ⟨oc0, od0, .func (PySem.W.fnOf "__init__" "SpanError.__init__" (defArgs s_SpanError_init) (defBody s_SpanError_init) (defScope s_SpanError_init) .none kV0 dc0 pm0 an0 cd0 ct0), sl0⟩)
    (u0 : PySem.W.codeIn K cd0 "SpanError.__init__" = true)
    (k0 : PySem.W.keepIn K (.ref fI) = true)
    (l1 : K.lookup fN = some ⟨oc1, od1, .func (PySem.W.fnOf "__init__" "Book.__init__" (defArgs s_Book_init) (defBody s_Book_init) (defScope s_Book_init) .none kV1 dc1 pm1 an1 cd1 ct1), sl1⟩)
    (u1 : PySem.W.codeIn K cd1 "Book.__init__" = true)
    (k1 : PySem.W.keepIn K (.ref fN) = true)
    (l2 : K.lookup fB = some ⟨oc2, od2, .func (PySem.W.fnOf "bounds" "Book.bounds" (defArgs s_Book_bounds) (defBody s_Book_bounds) (defScope s_Book_bounds) .none kV2 dc2 pm2 an2 cd2 ct2), sl2⟩)
    (u2 : PySem.W.codeIn K cd2 "Book.bounds" = true)
    (k2 : PySem.W.keepIn K (.ref fB) = true)
    (l3 : K.lookup fHr = some ⟨oc3, od3, .func (PySem.W.fnOf "has_rows" "Book.has_rows" (defArgs s_Book_has_rows) (defBody s_Book_has_rows) (defScope s_Book_has_rows) .none kV3 dc3 pm3 an3 cd3 ct3), sl3⟩)
    (u3 : PySem.W.codeIn K cd3 "Book.has_rows" = true)
    (k3 : PySem.W.keepIn K (.ref fHr) = true)
    (l4 : K.lookup fC = some ⟨oc4, od4, .func (PySem.W.fnOf "conflict" "Book.conflict" (defArgs s_Book_conflict) (defBody s_Book_conflict) (defScope s_Book_conflict) .none kV4 dc4 pm4 an4 cd4 ct4), sl4⟩)
    (u4 : PySem.W.codeIn K cd4 "Book.conflict" = true)
    (k4 : PySem.W.keepIn K (.ref fC) = true)
    (p5 : PySem.W.nsIn K mainGlobals "is_rule" = some (some (.ref g_is_rule)))
    (l5 : K.lookup g_is_rule = some ⟨oc5, od5, .func (PySem.W.fnOf "is_rule" "is_rule" (defArgs s_is_rule) (defBody s_is_rule) (defScope s_is_rule) .none kV5 dc5 pm5 an5 cd5 ct5), sl5⟩)
    (u5 : PySem.W.codeIn K cd5 "is_rule" = true)
    (k5 : PySem.W.keepIn K (.ref g_is_rule) = true)
    (p6 : PySem.W.nsIn K mainGlobals "lowest_most" = some (some (.ref g_lowest_most)))
    (l6 : K.lookup g_lowest_most = some ⟨oc6, od6, .func (PySem.W.fnOf "lowest_most" "lowest_most" (defArgs s_lowest_most) (defBody s_lowest_most) (defScope s_lowest_most) .none kV6 dc6 pm6 an6 cd6 ct6), sl6⟩)
    (u6 : PySem.W.codeIn K cd6 "lowest_most" = true)
    (k6 : PySem.W.keepIn K (.ref g_lowest_most) = true)
    (p7 : PySem.W.nsIn K mainGlobals "first_conflict" = some (some (.ref g_first_conflict)))
    (l7 : K.lookup g_first_conflict = some ⟨oc7, od7, .func (PySem.W.fnOf "first_conflict" "first_conflict" (defArgs s_first_conflict) (defBody s_first_conflict) (defScope s_first_conflict) .none kV7 dc7 pm7 an7 cd7 ct7), sl7⟩)
    (u7 : PySem.W.codeIn K cd7 "first_conflict" = true)
    (k7 : PySem.W.keepIn K (.ref g_first_conflict) = true)
    (p8 : PySem.W.nsIn K mainGlobals "first_exceeded" = some (some (.ref g_first_exceeded)))
    (l8 : K.lookup g_first_exceeded = some ⟨oc8, od8, .func (PySem.W.fnOf "first_exceeded" "first_exceeded" (defArgs s_first_exceeded) (defBody s_first_exceeded) (defScope s_first_exceeded) .none kV8 dc8 pm8 an8 cd8 ct8), sl8⟩)
    (u8 : PySem.W.codeIn K cd8 "first_exceeded" = true)
    (k8 : PySem.W.keepIn K (.ref g_first_exceeded) = true)
    (p9 : PySem.W.nsIn K mainGlobals "_law_pool" = some (some (.ref g_law_pool)))
    (l9 : K.lookup g_law_pool = some ⟨oc9, od9, .func (PySem.W.fnOf "_law_pool" "_law_pool" (defArgs s_pool) (defBody s_pool) (defScope s_pool) .none kV9 dc9 pm9 an9 cd9 ct9), sl9⟩)
    (u9 : PySem.W.codeIn K cd9 "_law_pool" = true)
    (k9 : PySem.W.keepIn K (.ref g_law_pool) = true)
    (p10 : PySem.W.nsIn K mainGlobals "_law_draw" = some (some (.ref g_law_draw)))
    (l10 : K.lookup g_law_draw = some ⟨oc10, od10, .func (PySem.W.fnOf "_law_draw" "_law_draw" (defArgs s_draw) (defBody s_draw) (defScope s_draw) .none kV10 dc10 pm10 an10 cd10 ct10), sl10⟩)
    (u10 : PySem.W.codeIn K cd10 "_law_draw" = true)
    (k10 : PySem.W.keepIn K (.ref g_law_draw) = true)
    (p11 : PySem.W.nsIn K mainGlobals "_law_made" = some (some (.ref g_law_made)))
    (l11 : K.lookup g_law_made = some ⟨oc11, od11, .func (PySem.W.fnOf "_law_made" "_law_made" (defArgs s_made) (defBody s_made) (defScope s_made) .none kV11 dc11 pm11 an11 cd11 ct11), sl11⟩)
    (u11 : PySem.W.codeIn K cd11 "_law_made" = true)
    (k11 : PySem.W.keepIn K (.ref g_law_made) = true)
    (p12 : PySem.W.nsIn K mainGlobals "_law_bounds" = some (some (.ref g_law_bounds)))
    (l12 : K.lookup g_law_bounds = some ⟨oc12, od12, .func (PySem.W.fnOf "_law_bounds" "_law_bounds" (defArgs s_bounds) (defBody s_bounds) (defScope s_bounds) .none kV12 dc12 pm12 an12 cd12 ct12), sl12⟩)
    (u12 : PySem.W.codeIn K cd12 "_law_bounds" = true)
    (k12 : PySem.W.keepIn K (.ref g_law_bounds) = true)
    (p13 : PySem.W.nsIn K mainGlobals "_law_is_let" = some (some (.ref g_law_is_let)))
    (l13 : K.lookup g_law_is_let = some ⟨oc13, od13, .func (PySem.W.fnOf "_law_is_let" "_law_is_let" (defArgs s_is_let) (defBody s_is_let) (defScope s_is_let) .none kV13 dc13 pm13 an13 cd13 ct13), sl13⟩)
    (u13 : PySem.W.codeIn K cd13 "_law_is_let" = true)
    (k13 : PySem.W.keepIn K (.ref g_law_is_let) = true)
    (p14 : PySem.W.nsIn K mainGlobals "_law_states" = some (some (.ref g_law_states)))
    (l14 : K.lookup g_law_states = some ⟨oc14, od14, .func (PySem.W.fnOf "_law_states" "_law_states" (defArgs s_states) (defBody s_states) (defScope s_states) .none kV14 dc14 pm14 an14 cd14 ct14), sl14⟩)
    (u14 : PySem.W.codeIn K cd14 "_law_states" = true)
    (k14 : PySem.W.keepIn K (.ref g_law_states) = true)
    (p15 : PySem.W.nsIn K mainGlobals "_law_goes_on" = some (some (.ref g_law_goes_on)))
    (l15 : K.lookup g_law_goes_on = some ⟨oc15, od15, .func (PySem.W.fnOf "_law_goes_on" "_law_goes_on" (defArgs s_goes_on) (defBody s_goes_on) (defScope s_goes_on) .none kV15 dc15 pm15 an15 cd15 ct15), sl15⟩)
    (u15 : PySem.W.codeIn K cd15 "_law_goes_on" = true)
    (k15 : PySem.W.keepIn K (.ref g_law_goes_on) = true)
    (p16 : PySem.W.nsIn K mainGlobals "_law_any" = some (some (.ref g_law_any)))
    (l16 : K.lookup g_law_any = some ⟨oc16, od16, .func (PySem.W.fnOf "_law_any" "_law_any" (defArgs s_any) (defBody s_any) (defScope s_any) .none kV16 dc16 pm16 an16 cd16 ct16), sl16⟩)
    (u16 : PySem.W.codeIn K cd16 "_law_any" = true)
    (k16 : PySem.W.keepIn K (.ref g_law_any) = true)
    (p17 : PySem.W.nsIn K mainGlobals "_law_due" = some (some (.ref g_law_due)))
    (l17 : K.lookup g_law_due = some ⟨oc17, od17, .func (PySem.W.fnOf "_law_due" "_law_due" (defArgs s_due) (defBody s_due) (defScope s_due) .none kV17 dc17 pm17 an17 cd17 ct17), sl17⟩)
    (u17 : PySem.W.codeIn K cd17 "_law_due" = true)
    (k17 : PySem.W.keepIn K (.ref g_law_due) = true)
    (p18 : PySem.W.nsIn K mainGlobals "_law_right" = some (some (.ref g_law_right)))
    (l18 : K.lookup g_law_right = some ⟨oc18, od18, .func (PySem.W.fnOf "_law_right" "_law_right" (defArgs s_right) (defBody s_right) (defScope s_right) .none kV18 dc18 pm18 an18 cd18 ct18), sl18⟩)
    (u18 : PySem.W.codeIn K cd18 "_law_right" = true)
    (k18 : PySem.W.keepIn K (.ref g_law_right) = true)
    (p19 : PySem.W.nsIn K mainGlobals "law" = some (some (.ref g_law)))
    (l19 : K.lookup g_law = some ⟨oc19, od19, .func (PySem.W.fnOf "law" "law" (defArgs s_law) (defBody s_law) (defScope s_law) .none kV19 dc19 pm19 an19 cd19 ct19), sl19⟩)
    (u19 : PySem.W.codeIn K cd19 "law" = true)
    (k19 : PySem.W.keepIn K (.ref g_law) = true)
    (z_int : PySem.W.nsIn K mainGlobals "int" = some none)
    (z_max : PySem.W.nsIn K mainGlobals "max" = some none)
    (z_min : PySem.W.nsIn K mainGlobals "min" = some none)
    (z_abs : PySem.W.nsIn K mainGlobals "abs" = some none)
    (z_len : PySem.W.nsIn K mainGlobals "len" = some none)
    (z_repr : PySem.W.nsIn K mainGlobals "repr" = some none)
    (z_isinstance : PySem.W.nsIn K mainGlobals "isinstance" = some none)
    (z_range : PySem.W.nsIn K mainGlobals "range" = some none)
    (z_str : PySem.W.nsIn K mainGlobals "str" = some none)
    (z_list : PySem.W.nsIn K mainGlobals "list" = some none)
    (z_enumerate : PySem.W.nsIn K mainGlobals "enumerate" = some none)
    (z_sum : PySem.W.nsIn K mainGlobals "sum" = some none)
    (z_ValueError : PySem.W.nsIn K mainGlobals "ValueError" = some none) :
    ∃ fd : FuncData, (∀ (s : PySem.Shared) (u : Value), BindsTo s fd ⟨[u], []⟩ [("script", u)]) ∧ ∀ base : Heap, K.In base → base.Ns mainGlobals mg → FnG P w K mg base CX0 9 fa fd ["script"] (spLaw K) := by
  have e := hfa.symm.trans (PySem.W.mg_of X G p19)
  cases e
  have F0 := fun_mk (st := s_SpanError_init) l0 u0 k0
  have b0 := F0.binds (ps := ["self", "value"]) fun _ _ _ _ _ _ us hl => match us, hl with | [_, _], _ => rfl
  have F1 := fun_mk (st := s_Book_init) l1 u1 k1
  have b1 := F1.binds (ps := ["self", "low", "high", "rules"]) fun _ _ _ _ _ _ us hl => match us, hl with | [_, _, _, _], _ => rfl
  have F2 := fun_mk (st := s_Book_bounds) l2 u2 k2
  have b2 := F2.binds (ps := ["self"]) fun _ _ _ _ _ _ us hl => match us, hl with | [_], _ => rfl
  have F3 := fun_mk (st := s_Book_has_rows) l3 u3 k3
  have b3 := F3.binds (ps := ["self"]) fun _ _ _ _ _ _ us hl => match us, hl with | [_], _ => rfl
  have F4 := fun_mk (st := s_Book_conflict) l4 u4 k4
  have b4 := F4.binds (ps := ["self"]) fun _ _ _ _ _ _ us hl => match us, hl with | [_], _ => rfl
  have F5 := fun_mk (st := s_is_rule) l5 u5 k5
  have b5 := F5.binds (ps := ["rule"]) fun _ _ _ _ _ _ us hl => match us, hl with | [_], _ => rfl
  have F6 := fun_mk (st := s_lowest_most) l6 u6 k6
  have b6 := F6.binds (ps := ["bounds"]) fun _ _ _ _ _ _ us hl => match us, hl with | [_], _ => rfl
  have F7 := fun_mk (st := s_first_conflict) l7 u7 k7
  have b7 := F7.binds (ps := ["bounds"]) fun _ _ _ _ _ _ us hl => match us, hl with | [_], _ => rfl
  have F8 := fun_mk (st := s_first_exceeded) l8 u8 k8
  have b8 := F8.binds (ps := ["bounds", "width", "least"]) fun _ _ _ _ _ _ us hl => match us, hl with | [_, _, _], _ => rfl
  have F9 := fun_mk (st := s_pool) l9 u9 k9
  have b9 := F9.binds (ps := ["script", "spot"]) fun _ _ _ _ _ _ us hl => match us, hl with | [_, _], _ => rfl
  have F10 := fun_mk (st := s_draw) l10 u10 k10
  have b10 := F10.binds (ps := ["pool", "many"]) fun _ _ _ _ _ _ us hl => match us, hl with | [_, _], _ => rfl
  have F11 := fun_mk (st := s_made) l11 u11 k11
  have b11 := F11.binds (ps := ["kind"]) fun _ _ _ _ _ _ us hl => match us, hl with | [_], _ => rfl
  have F12 := fun_mk (st := s_bounds) l12 u12 k12
  have b12 := F12.binds (ps := ["kind"]) fun _ _ _ _ _ _ us hl => match us, hl with | [_], _ => rfl
  have F13 := fun_mk (st := s_is_let) l13 u13 k13
  have b13 := F13.binds (ps := ["kind", "line"]) fun _ _ _ _ _ _ us hl => match us, hl with | [_, _], _ => rfl
  have F14 := fun_mk (st := s_states) l14 u14 k14
  have b14 := F14.binds (ps := ["kind"]) fun _ _ _ _ _ _ us hl => match us, hl with | [_], _ => rfl
  have F15 := fun_mk (st := s_goes_on) l15 u15 k15
  have b15 := F15.binds (ps := ["kind", "line", "found"]) fun _ _ _ _ _ _ us hl => match us, hl with | [_, _, _], _ => rfl
  have F16 := fun_mk (st := s_any) l16 u16 k16
  have b16 := F16.binds (ps := ["pool", "wide", "far"]) fun _ _ _ _ _ _ us hl => match us, hl with | [_, _, _], _ => rfl
  have F17 := fun_mk (st := s_due) l17 u17 k17
  have b17 := F17.binds (ps := ["kind"]) fun _ _ _ _ _ _ us hl => match us, hl with | [_], _ => rfl
  have F18 := fun_mk (st := s_right) l18 u18 k18
  have b18 := F18.binds (ps := ["pool"]) fun _ _ _ _ _ _ us hl => match us, hl with | [_], _ => rfl
  have F19 := fun_mk (st := s_law) l19 u19 k19
  refine ⟨PySem.W.fnOf "law" "law" (defArgs s_law) (defBody s_law) (defScope s_law) .none kV19 dc19 pm19 an19 cd19 ct19, fun s u => .of_eq rfl, fun base _ _ => ?_⟩
  have tb : TxB K mg fI cD cR cB fB fN := ⟨⟨PySem.W.mg_none_of X G z_int, PySem.W.mg_none_of X G z_max, PySem.W.mg_none_of X G z_min, PySem.W.mg_none_of X G z_abs, PySem.W.mg_none_of X G z_len, PySem.W.mg_none_of X G z_repr, PySem.W.mg_none_of X G z_isinstance, PySem.W.mg_none_of X G z_range, PySem.W.mg_none_of X G z_str, PySem.W.mg_none_of X G z_list, PySem.W.mg_none_of X G z_enumerate, PySem.W.mg_none_of X G z_sum, PySem.W.mg_none_of X G z_ValueError⟩, eD, eR, ⟨pg, hd, po, sa⟩, n1, n2, n3, n4, n5, n6, ⟨m_fB, i_fB, k2⟩, ⟨bm, bi, bf, bk⟩, PySem.W.mg_of X G aB⟩
  have GI : FnOk P w K mg base CX0 1 fI _ ["self", "value"] (spInit K) := ok_init F0
  have GR : CalN P w K mg base 1 "is_rule" spIsRule := ⟨g_is_rule, _, _, ok_is_rule F5, PySem.W.mg_of X G p5, k5, b5⟩
  have GL : CalN P w K mg base 1 "lowest_most" (spLow K) := ⟨g_lowest_most, _, _, ok_lowest F6 tb.b, PySem.W.mg_of X G p6, k6, b6⟩
  have GE : CalN P w K mg base 1 "first_exceeded" (spExc K) := ⟨g_first_exceeded, _, _, ok_exceeded F8 tb.b, PySem.W.mg_of X G p8, k8, b8⟩
  have GC : CalN P w K mg base 2 "first_conflict" (spConf K) := ⟨g_first_conflict, _, _, ok_conflict F7 tb.b GL GE, PySem.W.mg_of X G p7, k7, b7⟩
  have GB : FnOk P w K mg base CX0 1 fB _ ["self"] (spBnd cB) := ok_bounds F2 tb
  have GN := ok_binit (P := P) (w := w) (mg := mg) (base := base) F1 tb GI b0 GR GC GB b2
  have GHr := ok_has (P := P) (w := w) (mg := mg) (base := base) F3 tb
  have GCf := ok_cfl (P := P) (w := w) (mg := mg) (base := base) F4 tb
  have GP : CalN P w K mg base 1 "_law_pool" (spPool K) := ⟨g_law_pool, _, _, ok_pool F9 tb.b, PySem.W.mg_of X G p9, k9, b9⟩
  have GD : CalN P w K mg base 1 "_law_draw" spDraw := ⟨g_law_draw, _, _, ok_draw F10 tb.b, PySem.W.mg_of X G p10, k10, b10⟩
  have GM : CalN P w K mg base 6 "_law_made" (spMade cB) := ⟨g_law_made, _, _, ok_made F11 tb GN b1, PySem.W.mg_of X G p11, k11, b11⟩
  have GLB : CalN P w K mg base 1 "_law_bounds" spLB := ⟨g_law_bounds, _, _, ok_lbounds F12 tb.b, PySem.W.mg_of X G p12, k12, b12⟩
  have GIL : CalN P w K mg base 2 "_law_is_let" spIL := ⟨g_law_is_let, _, _, ok_is_let F13 tb.b GLB, PySem.W.mg_of X G p13, k13, b13⟩
  have GGO : CalN P w K mg base 3 "_law_goes_on" spGO := ⟨g_law_goes_on, _, _, ok_goes F15 tb.b GIL, PySem.W.mg_of X G p15, k15, b15⟩
  have GST : CalN P w K mg base 4 "_law_states" spST := ⟨g_law_states, _, _, ok_states F14 tb.b GLB GIL GGO, PySem.W.mg_of X G p14, k14, b14⟩
  have GDU : CalN P w K mg base 2 "_law_due" (spDue K) := ⟨g_law_due, _, _, ok_due F17 tb.b GLB, PySem.W.mg_of X G p17, k17, b17⟩
  have GAN : CalN P w K mg base 2 "_law_any" spAny := ⟨g_law_any, _, _, ok_any F16 tb.b GD, PySem.W.mg_of X G p16, k16, b16⟩
  have GZ : CalG P w K mg base 8 "_law_right" spRight := ⟨g_law_right, _, _, ok_right F18 tb GAN GM GDU GST ⟨m_fHr, i_fHr, k3⟩ GHr b3 ⟨m_fC, i_fC, k4⟩ GCf b4, PySem.W.mg_of X G p18, k18, b18⟩
  exact ok_law F19 tb.b GP GZ

end Ev

open PySem PySem.W PyProof.Rows
set_option maxRecDepth 100000 in
set_option maxHeartbeats 0 in
theorem PySem.Challenge.cw_everyspan_k05_books_without_rows_holds : PySem.Challenge.rw_everyspan_k05_books_without_rows.Holds := by
  w_on; o_law; k_head; (case hw => w_witness2)
  k_fill
  refine Ev.walk_ofG (l := PySem.Challenge.rw_everyspan_k05_books_without_rows) (n := 63) (k := 9) (x := "script") (sp := Ev.spLaw) rfl (by decide) rfl ⟨rfl, by decide, by decide⟩ (fun w h Y => PySem.W.kIn_of Y) ?F ?hsp
  case hsp => exact fun K H a ns hl hS => ⟨a, ns, rfl, hS, hl, fun _ => rfl⟩
  case F =>
    intro w mg fa h KX G hmg
    refine' Ev.all_mk KX G hmg ?o_eD ?o_eR ?o_aB ?o_bm ?o_bi ?o_bf ?o_bk ?o_pg ?o_hd ?o_po ?o_sa ?o_n1 ?o_n2 ?o_n3 ?o_n4 ?o_n5 ?o_n6 ?o_m_fB ?o_i_fB ?o_m_fHr ?o_i_fHr ?o_m_fC ?o_i_fC ?o_l0 ?o_u0 ?o_k0 ?o_l1 ?o_u1 ?o_k1 ?o_l2 ?o_u2 ?o_k2 ?o_l3 ?o_u3 ?o_k3 ?o_l4 ?o_u4 ?o_k4 ?o_p5 ?o_l5 ?o_u5 ?o_k5 ?o_p6 ?o_l6 ?o_u6 ?o_k6 ?o_p7 ?o_l7 ?o_u7 ?o_k7 ?o_p8 ?o_l8 ?o_u8 ?o_k8 ?o_p9 ?o_l9 ?o_u9 ?o_k9 ?o_p10 ?o_l10 ?o_u10 ?o_k10 ?o_p11 ?o_l11 ?o_u11 ?o_k11 ?o_p12 ?o_l12 ?o_u12 ?o_k12 ?o_p13 ?o_l13 ?o_u13 ?o_k13 ?o_p14 ?o_l14 ?o_u14 ?o_k14 ?o_p15 ?o_l15 ?o_u15 ?o_k15 ?o_p16 ?o_l16 ?o_u16 ?o_k16 ?o_p17 ?o_l17 ?o_u17 ?o_k17 ?o_p18 ?o_l18 ?o_u18 ?o_k18 ?o_p19 ?o_l19 ?o_u19 ?o_k19 ?o_z_int ?o_z_max ?o_z_min ?o_z_abs ?o_z_len ?o_z_repr ?o_z_isinstance ?o_z_range ?o_z_str ?o_z_list ?o_z_enumerate ?o_z_sum ?o_z_ValueError
    (case o_eD => refine' Ev.cls_mk KX G ?a ?xl ?rb ?sa ?ec ?ty ?kc ?i ?t ?ga ?gg ?hd ?ac ?sn ?tk ?mr ?vn; (case a => k_is); (case xl => k_is); (case rb => decide +kernel); (case sa => k_is); (case ec => k_is); (case ty => k_is); (case kc => k_is); (case i => k_is); (case t => k_is); (case ga => k_is); (case gg => k_is); (case hd => k_is); (case ac => k_is); (case sn => k_is); (case tk => k_is); (case mr => k_is); (case vn => k_is))
    (case o_eR => refine' Ev.cls_mk KX G ?a ?xl ?rb ?sa ?ec ?ty ?kc ?i ?t ?ga ?gg ?hd ?ac ?sn ?tk ?mr ?vn; (case a => k_is); (case xl => k_is); (case rb => decide +kernel); (case sa => k_is); (case ec => k_is); (case ty => k_is); (case kc => k_is); (case i => k_is); (case t => k_is); (case ga => k_is); (case gg => k_is); (case hd => k_is); (case ac => k_is); (case sn => k_is); (case tk => k_is); (case mr => k_is); (case vn => k_is))
    (case o_aB => k_is)
    (case o_bm => k_is)
    (case o_bi => k_is)
    (case o_bf => k_is)
    (case o_bk => k_is)
    (case o_pg => k_is)
    (case o_hd => k_is)
    (case o_po => k_is)
    (case o_sa => k_is)
    (case o_n1 => k_is)
    (case o_n2 => k_is)
    (case o_n3 => k_is)
    (case o_n4 => k_is)
    (case o_n5 => k_is)
    (case o_n6 => k_is)
    (case o_m_fB => k_is)
    (case o_i_fB => k_is)
    (case o_m_fHr => k_is)
    (case o_i_fHr => k_is)
    (case o_m_fC => k_is)
    (case o_i_fC => k_is)
    (case o_l0 => k_is)
    (case o_u0 => k_is)
    (case o_k0 => k_is)
    (case o_l1 => k_is)
    (case o_u1 => k_is)
    (case o_k1 => k_is)
    (case o_l2 => k_is)
    (case o_u2 => k_is)
    (case o_k2 => k_is)
    (case o_l3 => k_is)
    (case o_u3 => k_is)
    (case o_k3 => k_is)
    (case o_l4 => k_is)
    (case o_u4 => k_is)
    (case o_k4 => k_is)
    (case o_p5 => k_is)
    (case o_l5 => k_is)
    (case o_u5 => k_is)
    (case o_k5 => k_is)
    (case o_p6 => k_is)
    (case o_l6 => k_is)
    (case o_u6 => k_is)
    (case o_k6 => k_is)
    (case o_p7 => k_is)
    (case o_l7 => k_is)
    (case o_u7 => k_is)
    (case o_k7 => k_is)
    (case o_p8 => k_is)
    (case o_l8 => k_is)
    (case o_u8 => k_is)
    (case o_k8 => k_is)
    (case o_p9 => k_is)
    (case o_l9 => k_is)
    (case o_u9 => k_is)
    (case o_k9 => k_is)
    (case o_p10 => k_is)
    (case o_l10 => k_is)
    (case o_u10 => k_is)
    (case o_k10 => k_is)
    (case o_p11 => k_is)
    (case o_l11 => k_is)
    (case o_u11 => k_is)
    (case o_k11 => k_is)
    (case o_p12 => k_is)
    (case o_l12 => k_is)
    (case o_u12 => k_is)
    (case o_k12 => k_is)
    (case o_p13 => k_is)
    (case o_l13 => k_is)
    (case o_u13 => k_is)
    (case o_k13 => k_is)
    (case o_p14 => k_is)
    (case o_l14 => k_is)
    (case o_u14 => k_is)
    (case o_k14 => k_is)
    (case o_p15 => k_is)
    (case o_l15 => k_is)
    (case o_u15 => k_is)
    (case o_k15 => k_is)
    (case o_p16 => k_is)
    (case o_l16 => k_is)
    (case o_u16 => k_is)
    (case o_k16 => k_is)
    (case o_p17 => k_is)
    (case o_l17 => k_is)
    (case o_u17 => k_is)
    (case o_k17 => k_is)
    (case o_p18 => k_is)
    (case o_l18 => k_is)
    (case o_u18 => k_is)
    (case o_k18 => k_is)
    (case o_p19 => k_is)
    (case o_l19 => k_is)
    (case o_u19 => k_is)
    (case o_k19 => k_is)
    (case o_z_int => k_is)
    (case o_z_max => k_is)
    (case o_z_min => k_is)
    (case o_z_abs => k_is)
    (case o_z_len => k_is)
    (case o_z_repr => k_is)
    (case o_z_isinstance => k_is)
    (case o_z_range => k_is)
    (case o_z_str => k_is)
    (case o_z_list => k_is)
    (case o_z_enumerate => k_is)
    (case o_z_sum => k_is)
    (case o_z_ValueError => k_is)
