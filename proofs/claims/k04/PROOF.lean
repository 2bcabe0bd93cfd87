import PyProof.Rows.All
import Wide.All
import OpenK.AllK
import Wide.FinOn
import HandS.ForExc
import HandS.Codes
import HandS.IsInst
import HandS.Wide
import HandS.EndBits
import HandS.ExcInit
import HandS.ExcIs
import HandS.MakeKw
import KE.KExcIs
import HandS.MakeKwOnly
import HandS.Comp
import HandS.ExcField
import HandS.Iter
import PyProof.StrOps2
import PyProof.ReprLoop
import PyProof.StrLaws
import HandS.WordsExc
import HandS.Exc
import PySem.Challenge.RW_everyspan_k04_books_turned_and_scaled
import HandS.Property
import HandS.OwnEq
import KE.RegKIsAll
set_option Elab.async false
set_option linter.all false
set_option maxRecDepth 100000
/-! Own rules over the hand layer: powers of great ints; defs that are promised only where no text of an object is being made around them (for repr). -/
namespace Ev
open PySem PySem.Spec PyProof.Rows L2

/-! ### powers -/
def CPowW (i j : Int) : Prop := 0 ≤ j ∧ j ≤ 1000 ∧ i.natAbs < 2 ^ 2000
section
variable {X : Cx}
theorem op_powW : OpR X (binaryOp .Pow) (rI CPowW fun i j => .int (i ^ j.toNat)) := opI fun i j _ _ _ _ _ hc q => by
  obtain ⟨h0, h1, h2⟩ := hc
  refine pow_int h0 ?_ q
  have hb : Builtin.Int.intBits i ≤ 2000 := by
    have h3 := PySem.Flt.log2_lt_of (by decide : 0 < 2000) h2
    unfold Builtin.Int.intBits
    split <;> omega
  have h4 : (Builtin.Int.intBits i : Int) * j ≤ 2000 * 1000 := by
    have a1 : (Builtin.Int.intBits i : Int) ≤ 2000 := by omega
    exact Int.le_trans (Int.mul_le_mul_of_nonneg_right a1 h0) (Int.mul_le_mul_of_nonneg_left h1 (by decide))
  have h5 : (2 : Int) ^ 27 = 134217728 := by decide
  omega

/-! ### repr -/
/-- repr of data of any depth, where nothing around is being shown -/
def rRepr (K : PySem.W.Frag) : List V → Hp → VK → Prop := fun xs H Q => ∃ (x : V) (d : PyData), xs = [x] ∧ Dp K H x d ∧ d.showable = true ∧ d.hasDict = false ∧ d.depth ≤ 100 ∧ d.shown.length ≤ sizeLine ∧ Q (.str d.shown) H
theorem call_repr_data (hg : X.A.guards = some []) (hu : X.A.units + 200 < cLine) : CallR X (.builtin "repr") (rRepr X.K) := by
  intro pins s σ H xs us Q I r h
  obtain ⟨x, d, rfl, hd, hs, hn, hp, hz, q⟩ := h
  obtain ⟨u, rfl, ru⟩ := vals1 r
  obtain ⟨as, rd⟩ := Dp.reads I d x u hd ru
  have far : ∀ a : Addr, u = .ref a → wpAny (model X.prog X.w) X.A (call (.builtin "repr") [u]) (EP X pins σ Q) X.xe s := fun a e => by
    subst e
    exact repr_of_reads' rd hs (PyData.noDict_hsm hn) hg (by omega) (fun _ _ z => z) (fun h' u tk hk => ⟨.str d.shown, H, I.kept (t' := tk) hk, ⟨u, rfl⟩, q⟩) hz
  cases hd with
  | non =>
    cases (show u = Value.none from ru)
    exact PySem.P.repr_of_none ⟨.str _, H, I.tok _, ⟨_, rfl⟩, by simpa only [PyData.shown] using q⟩
  | bl b =>
    cases (show u = Value.bool b from ru)
    exact PySem.P.repr_of_bool ⟨.str _, H, I.tok _, ⟨_, rfl⟩, by simpa only [PyData.shown] using q⟩
  | int i =>
    obtain ⟨t, e⟩ := (show ∃ t, u = Value.int i t from ru)
    subst e
    exact PySem.P.repr_of_int (by simpa [PyData.showable] using hs) ⟨.str _, H, I.tok _, ⟨_, rfl⟩, by simpa only [PyData.shown] using q⟩
  | str y =>
    obtain ⟨t, e⟩ := (show ∃ t, u = Value.str y t from ru)
    subst e
    exact PySem.P.repr_of_str ⟨.str _, H, I.tok _, ⟨_, rfl⟩, by simpa only [PyData.shown] using q⟩ (by simpa only [PyData.shown] using hz)
  | @lst a xs ds e1 e2 => exact far a (show u = Value.ref a from ru)
  | @tup a xs ds e1 e2 => exact far a (show u = Value.ref a from ru)
end

/-! ### defs that show things -/
structure FnG (P : Program) (w : World) (K : PySem.W.Frag) (mg : Str → Option Value) (base : Heap) (CX : CXT) (k : Nat) (f : Addr) (fd : FuncData) (ps : List Str) (sp : Sp) : Prop where
  size : ∀ vs H Q E, sp vs H Q E → vs.length = ps.length
  does : ∀ (A : Around) (fr : List Env) (s : Shared) (H : Hp) (as : Args) (us : List Value) (vs : List V) (Q : VK) (E : XK),
    Room k A ∧ A.guards = some [] → Env0 P w K mg base A fr s H → BindsTo s fd as (ps.zip us) → Vals vs us → sp vs H Q E → codeAny (model P w) A (.call (.ref f) as) (CR CX fr P w H s Q E) s
theorem FnG.of {P : Program} {w : World} {K : PySem.W.Frag} {mg : Str → Option Value} {base : Heap} {CX : CXT} {k : Nat} {f : Addr} {fd : FuncData} {ps : List Str} {sp : Sp}
    (F : FnOk P w K mg base CX k f fd ps sp) : FnG P w K mg base CX k f fd ps sp :=
  ⟨F.len, fun A fr s H as us vs Q E hr e0 hb hv hs => F.run A fr s H as us vs Q E hr.1 e0 hb hv hs⟩
section
variable {X : Cx} {CX : CXT} {k : Nat} {f : Addr} {fd : FuncData} {ps : List Str} {sp : Sp} {E : XK} {x : Str} {p pos : Pos} {e : Expr} {es : List Expr} {t : TA}
/-- f(e, ..), all parameters given -/
theorem pe_callG (F : FnG X.prog X.w X.K X.mg X.base CX k f fd ps sp) (hr : Room k X.A) (hgu : X.A.guards = some []) (hg : Gl X x) (hm : X.mg x = some (.ref f)) (hk : PySem.W.keepIn X.K (.ref f) = true)
    (hb : Binds X.K fd ps []) (hx : Passes CX X E) (ha : PA X (e :: es) t) (hdb : (x == ("__debug__" : Str)) = false := by decide)
    (he : starEach (e :: es) X.env = (false, eval e X.env) :: starEach es X.env := by rfl) (hpl : (backTo pos (starEach es X.env)).any (·.1) = false := by rfl) :
    PE X (.Call (.Name x p) (e :: es) [] pos) (tCall sp [] E t) := ⟨fun pins s σ H Q I h => by
  refine wpAny_Call_Name_kw (ld_glob I hg hm ?_ hdb)
  refine PySem.W.callWith_K (h₀ := X.base) I.ok.mod.kin hk (thn (ha.run pos pins s σ H _ I h) fun us s1 got => ?_) he hpl
  obtain ⟨vs, H1, I1, r, q⟩ := got
  refine ⟨I1.kIn, ?_⟩
  rw [List.append_nil] at q
  have hl : (us ++ []).length = ps.length := by
    rw [List.append_nil, ← r.length]
    exact F.size _ _ _ _ q
  have hb1 := hb s1 us I1.kIn hl
  rw [List.append_nil] at hb1
  refine wpAny_call (codeAny_mono (F.does X.A X.stack s1 H1 ⟨us, []⟩ us vs Q E ⟨hr, hgu⟩ I1.env0 hb1 r q) fun res s' hq => ?_)
  rcases res with er | fl
  · exact hx pins σ H1 s1 er s' I1 hq
  · rcases fl with _ | _ | _ | u
    · exact False.elim hq
    · exact False.elim hq
    · exact False.elim hq
    · exact I1.after hq⟩
end
/-- a def by its body, which may lean on it that nothing is being shown around -/
theorem fnG_of {P : Program} {w : World} {K : PySem.W.Frag} {mg : Str → Option Value} {base : Heap} {x qual : Str} {st : Stmt} {f : Addr} {fd : FuncData} {N ps : List Str} {k : Nat} {sp : Sp} (F : Fun K x qual st f fd) (S : FnScope N ps (defScope st))
    (len : ∀ vs H Q E, sp vs H Q E → vs.length = ps.length)
    (body : ∀ (cdv : Value) (A : Around) (fr : List Env) (s : Shared) (H : Hp) (vs : List V) (Q : VK) (E : XK), A.guards = some [] → Room k (A.deeper (envOfC qual (defScope st) s.heap.objs.size f cdv)) → sp vs H Q E →
      ∃ t, PSs (cxOf CX0 P w K mg base N qual (defScope st) f cdv A fr s H E).nox (defBody st) t ∧ t { nx := fun _ H' => Q .non H', rt := Q } (start N vs) H) :
    FnG P w K mg base CX0 (k + 1) f fd ps sp := by
  obtain ⟨oc, od, kV, doc, pm, an, cdv, ct, osl, rfl, lk, hcd⟩ := F.ex
  refine ⟨len, fun A fr s H as us vs Q E hr e0 hb rv hsp => ?_⟩
  obtain ⟨hroom, hgu⟩ := hr
  have up : ∀ b o, base.get? b = some o → s.heap.get? b = some o := fun b o z => (e0.bs b o z).1
  have KX : K.In s.heap := e0.mod.kin.keeps up
  have par : ∀ y ∈ ps.zip us, (defScope st).names.lookup y.1 = some .local ∨ ((defScope st).names.lookup y.1 = some .cell ∧ ((cellsFrom (s.heap.objs.size + 1) (defScope st).names []).lookup y.1).isSome = true) := by
    rintro ⟨n, v⟩ hy
    rcases S.par n (List.of_mem_zip hy).1 with q | q
    · exact Or.inl q
    · exact Or.inr ⟨q, PySem.W.cellsFrom_some _ _ _ (Or.inl q)⟩
  refine codeAny_call_function hroom.depth (KX _ _ lk) rfl S.co S.gen rfl (PySem.W.codeRec_of KX hcd) (hb _ _ _ _ ?_)
  refine wpAny_newFunctionEnv_cells S.kind par fun env he s1 ic => ?_
  subst he
  refine ⟨(e0.mod.nolimit.keeps up).keeps ic.toInCall.keep, codeAny_func ?_⟩
  obtain ⟨t, ht, hq⟩ := body cdv A fr s H vs Q E hgu (hroom.deeper _) hsp
  have I : Inv (cxOf CX0 P w K mg base N qual (defScope st) f cdv A fr s H E) [] (start N vs) H s1 := inv_start S hroom.hd e0 (len _ _ _ _ hsp) rv ic
  refine wpAny_mono (ht.nox.run [] s1 (start N vs) H _ I hq) (fun fl s' hs => ?_) fun er s' hs => hs
  rcases fl with _ | _ | _ | u
  · obtain ⟨σ', H', J, q⟩ := hs
    exact ⟨V.non, H', J.os, J.bare, J.base, J.hok, rfl, q⟩
  · exact hs.elim fun _ z => z.elim fun _ z => False.elim z.2
  · exact hs.elim fun _ z => z.elim fun _ z => False.elim z.2
  · obtain ⟨v, σ', H', J, r2, q⟩ := hs
    exact ⟨v, H', J.os, J.bare, J.base, J.hok, r2, q⟩
end Ev

namespace Ev
open PySem PySem.Spec PyProof.Rows L2
/-- such a def as a constant of the module -/
structure CalG (P : Program) (w : World) (K : PySem.W.Frag) (mg : Str → Option Value) (base : Heap) (k : Nat) (x : Str) (sp : Sp) : Prop where
  ex : ∃ (f : Addr) (fd : FuncData) (ps : List Str), FnG P w K mg base CX0 k f fd ps sp ∧ mg x = some (.ref f) ∧ PySem.W.keepIn K (.ref f) = true ∧ Binds K fd ps []
theorem pe_cG {X : Cx} {k j : Nat} {x : Str} {sp : Sp} {p pos : Pos} {e : Expr} {es : List Expr} {t : TA} (c : CalG X.prog X.w X.K X.mg X.base k x sp) (hr : Room j X.A) (hk : k ≤ j) (hgu : X.A.guards = some []) (hg : Gl X x) (ha : PA X (e :: es) t)
    (hdb : (x == ("__debug__" : Str)) = false := by decide) (he : starEach (e :: es) X.env = (false, eval e X.env) :: starEach es X.env := by rfl) (hpl : (backTo pos (starEach es X.env)).any (·.1) = false := by rfl) :
    PE X (.Call (.Name x p) (e :: es) [] pos) (tCall sp [] E0 t) := by
  obtain ⟨f, fd, ps, F, hm, kp, b⟩ := c.ex
  exact pe_callG F (hr.mono hk) hgu hg hm kp b pass0 ha hdb he hpl
/-- a def that shows nothing, likewise -/
structure CalN (P : Program) (w : World) (K : PySem.W.Frag) (mg : Str → Option Value) (base : Heap) (k : Nat) (x : Str) (sp : Sp) : Prop where
  ex : ∃ (f : Addr) (fd : FuncData) (ps : List Str), FnOk P w K mg base CX0 k f fd ps sp ∧ mg x = some (.ref f) ∧ PySem.W.keepIn K (.ref f) = true ∧ Binds K fd ps []
theorem pe_cN {X : Cx} {k j : Nat} {x : Str} {sp : Sp} {p pos : Pos} {e : Expr} {es : List Expr} {t : TA} (c : CalN X.prog X.w X.K X.mg X.base k x sp) (hr : Room j X.A) (hk : k ≤ j) (hg : Gl X x) (ha : PA X (e :: es) t)
    (hdb : (x == ("__debug__" : Str)) = false := by decide) (he : starEach (e :: es) X.env = (false, eval e X.env) :: starEach es X.env := by rfl) (hpl : (backTo pos (starEach es X.env)).any (·.1) = false := by rfl) :
    PE X (.Call (.Name x p) (e :: es) [] pos) (tCall sp [] E0 t) := by
  obtain ⟨f, fd, ps, F, hm, kp, b⟩ := c.ex
  exact pe_call F (hr.mono hk) hg hm kp b .nil pass0 ha hdb he hpl
theorem hun {k : Nat} {A : Around} (r : Room k A) : A.units + 200 < cLine := by
  have := r.un
  omega
theorem hun64 {k : Nat} {A : Around} (r : Room k A) : A.units + 64 < cLine := by
  have := r.un
  omega
end Ev

/-! ### the end of a law row, the law's def promised only where nothing is being shown around -/
namespace Ev
open PySem PySem.Spec PyProof.Rows L2
/-- what a call from outside leaves -/
abbrev Left (s₁ : Shared) : Result → Shared → Prop := fun r s' => r = .ok (.ret (.bool true)) ∧ OldK s₁.heap s'.heap ∧ s'.os = s₁.os ∧ AllBare s'.gens
section
variable {P : Program} {w : World} {K : PySem.W.Frag} {mg mb : Str → Option Value} {k : Nat} {fa a : Addr} {fd : FuncData} {x : Str} {sp : Sp} {s₁ : Shared} {vs : List Value} {ns : List Int}
/-- over an abstract heap H that tracks the script alone, or nothing -/
theorem from_heap {H : Hp} (KX : K.In s₁.heap) (hns : s₁.heap.Ns mainGlobals mg) (hb : s₁.heap.Ns builtinsNs mb) (hbb : ∀ x : Str, x ≠ "__name__" → mb x = bootBuiltins x) (hlim : s₁.heap.NoLimit) (hg : s₁.gens = #[])
    (ha : s₁.heap.get? a = some { cls := .type "list", data := .seq vs.toArray }) (hr : Room k callerA)
    (F : ∀ base : Heap, K.In base → base.Ns mainGlobals mg → FnG P w K mg base CX0 k fa fd [x] sp) (hbind : ∀ (s : Shared) (u : Value), BindsTo s fd ⟨[u], []⟩ [(x, u)])
    (hO : Only H) (hok : HOk P w H s₁.heap) (only : ∀ b u, H b = some u → b = a) (hK : ∀ u, H a = some u → K.lookup a = none)
    (hsp : sp [.ref a] H (fun v _ => v = .bl true) fun _ _ _ => False) : codeAny (model P w) callerA (.call (.ref fa) ⟨[.ref a], []⟩) (Left s₁) s₁ := by
  have none_of : ∀ {b : Addr}, b ≠ a → H b = none := fun {b} nb => by
    cases q : H b with
    | none => rfl
    | some u => exact absurd (only b u q) nb
  -- a namespace is no list: it stays in the heap without what is tracked
  have keepNs : ∀ {b : Addr} {m : Str → Option Value}, s₁.heap.Ns b m → (hidT s₁.heap H).Ns b m := fun {b m} hm => by
    obtain ⟨o, es, ep, e1, e2, r⟩ := hm
    refine ⟨o, es, ep, hidT_get e1 (none_of fun z => ?_), e2, r⟩
    rw [z, ha] at e1
    have z1 := Option.some.inj e1
    rw [← z1] at e2
    exact absurd e2 (fun q => by cases q)
  have KB : K.In (hidT s₁.heap H) := fun b o e => by
    refine hidT_get (KX b o e) ?_
    cases q : H b with
    | none => rfl
    | some u =>
      have eb := only b u q
      rw [eb] at q e
      rw [hK u q] at e
      cases e
  have lim : (hidT s₁.heap H).NoLimit := by
    obtain ⟨mc, h1, h2⟩ := hlim
    exact ⟨mc, keepNs h1, h2⟩
  have env : Env0 P w K mg (hidT s₁.heap H) callerA [] s₁ H := {
    frames := rfl
    mod := ⟨KB, keepNs hns, ⟨mb, keepNs hb, hbb⟩, lim⟩
    bs := fun b o e => of_hidT e
    bsz := Nat.le_of_eq (hidT_size _ _)
    funs := trivial
    frf := fun b z => by
      have z' : b ∈ ([] : List Addr) := z
      cases z'
    hok := hok
    bare := .of_eq hg }
  refine codeAny_mono ((F _ KB (keepNs hns)).does callerA [] s₁ H ⟨[.ref a], []⟩ [.ref a] [.ref a] _ _ ⟨hr, rfl⟩ env (hbind s₁ (.ref a)) (Paired.cons rfl Paired.nil) hsp) fun r s' h => ?_
  rcases r with er | fl
  · exact False.elim h
  · rcases fl with _ | _ | _ | u
    · exact False.elim h
    · exact False.elim h
    · exact False.elim h
    · obtain ⟨v, H', os, bare, un, hok', r', q⟩ := h
      have q' : v = .bl true := q
      subst q'
      obtain rfl : u = Value.bool true := r'
      refine ⟨rfl, OldK.of_keep fun b o e => ?_, os, bare⟩
      rcases hO b with z | ⟨ob, xs, z⟩
      · refine un.keep b o e z (fun m => ?_) (fun m => ?_)
        · have m' : b ∈ ([] : List Addr) := m
          cases m'
        · cases m
      · have e1 : s₁.heap.get? b = some ob := (hok b _ z).1
        have e2 : s'.heap.get? b = some ob := (hok' b _ (un.frzs b ob _ z)).1
        rw [e] at e1
        rw [e2, ← Option.some.inj e1]
theorem law_callG (KX : K.In s₁.heap) (hns : s₁.heap.Ns mainGlobals mg) (hb : s₁.heap.Ns builtinsNs mb) (hbb : ∀ x : Str, x ≠ "__name__" → mb x = bootBuiltins x) (hlim : s₁.heap.NoLimit) (hg : s₁.gens = #[])
    (ha : s₁.heap.get? a = some { cls := .type "list", data := .seq vs.toArray }) (hi : IntsAre vs ns) (hl : ns.length ≤ sizeLine) (hr : Room k callerA)
    (F : ∀ base : Heap, K.In base → base.Ns mainGlobals mg → FnG P w K mg base CX0 k fa fd [x] sp) (hbind : ∀ (s : Shared) (u : Value), BindsTo s fd ⟨[u], []⟩ [(x, u)])
    (hsp : ∀ H : Hp, Only H → SqL K H a (ns.map V.int) → sp [.ref a] H (fun v _ => v = .bl true) fun _ _ _ => False) : codeAny (model P w) callerA (.call (.ref fa) ⟨[.ref a], []⟩) (Left s₁) s₁ := by
  have rv : Vals (ns.map V.int) vs := vals_ints hi
  cases hk : K.lookup a with
  | some o =>
    -- one of the module's own objects: nothing is tracked
    have e := KX a o hk
    rw [ha] at e
    cases e
    have n0 : ∀ b u, (fun _ => none : Hp) b = some u → False := fun b u z => by cases z
    refine from_heap (H := fun _ => none) KX hns hb hbb hlim hg ha hr F hbind (fun _ => .inl rfl) (fun b u z => (n0 b u z).elim) (fun b u z => (n0 b u z).elim) (fun u z => (n0 a u z).elim) (hsp _ (fun _ => .inl rfl) (.inr ⟨_, vs.toArray, _, hk, rfl, rfl, rfl, ?_, rv⟩))
    rw [List.size_toArray, hi.length]
    exact hl
  | none =>
    have at1 : ∀ b u, (upd (fun _ => none) a (.frz { cls := .type "list", data := .seq vs.toArray } (.lst (ns.map V.int)))) b = some u → b = a ∧ u = .frz { cls := .type "list", data := .seq vs.toArray } (.lst (ns.map V.int)) := fun b u z => by
      by_cases hb : b = a
      · subst hb
        rw [upd_same] at z
        exact ⟨rfl, (Option.some.inj z).symm⟩
      · rw [upd_ne hb] at z
        cases z
    have o1 : Only (upd (fun _ => none) a (.frz { cls := .type "list", data := .seq vs.toArray } (.lst (ns.map V.int)))) := fun b => by
      by_cases hb : b = a
      · subst hb
        exact .inr ⟨_, _, upd_same⟩
      · exact .inl (by rw [upd_ne hb])
    refine from_heap (H := upd (fun _ => none) a (.frz { cls := .type "list", data := .seq vs.toArray } (.lst (ns.map V.int)))) KX hns hb hbb hlim hg ha hr F hbind o1 (fun b u z => ?_) (fun b u z => (at1 b u z).1) (fun _ _ => hk) (hsp _ o1 (.inl (.inr ⟨_, upd_same⟩)))
    obtain ⟨eb, eu⟩ := at1 b u z
    subst eb
    subst eu
    exact ⟨ha, by rw [List.length_map]; exact hl, vs, _, rv, ha⟩
end
/-- the goal that the head leaves, from the law's promise -/
theorem walk_ofG {l : PySem.W.OpenLaw} {n k : Nat} {q : Program} {loose : List Str} {XP : (Str → Option Value) → Heap → Prop} {YP : World → Heap → Prop} {d : DefRec} {K : Params → PySem.W.Frag} {sp : PySem.W.Frag → Sp} {x : Str}
    (hn : l.most = some n) (hn2 : n ≤ sizeLine) (hdf : d.params.defaults = []) (hr : Room k callerA) (hY : ∀ (w : World) (h : Heap), YP w h → (K w.params).In h)
    (F : ∀ (w : World) (mg : Str → Option Value) (fa : Addr) (h : Heap), (K w.params).In h → h.Ns mainGlobals mg → mg d.name = some (.ref fa) →
      ∃ fd : FuncData, (∀ (s : Shared) (u : Value), BindsTo s fd ⟨[u], []⟩ [(x, u)]) ∧ ∀ base : Heap, (K w.params).In base → base.Ns mainGlobals mg → FnG l.prog w (K w.params) mg base CX0 k fa fd [x] (sp (K w.params)))
    (hsp : ∀ (K : PySem.W.Frag) (H : Hp) (a : Addr) (ns : List Int), ns.length ≤ n → SqL K H a (ns.map V.int) → sp K [.ref a] H (fun v _ => v = .bl true) fun _ _ _ => False) :
    PySem.W.WalkO q loose XP YP l.row.toRowW d [] (fun f vs => PySem.call f vs) := by
  refine Att.attach_call hn hdf fun w s₀ s₁ mg mb fa o pm cd doc a vs ns G Y ho hd hcd hmg hobj hints hlen hg => ?_
  have KX := hY w _ Y
  obtain ⟨fd, hb, hF⟩ := F w mg fa _ KX G.T.g hmg
  exact law_callG KX G.T.g G.T.b G.T.builtins G.T.nolimit hg hobj hints (Nat.le_trans hlen hn2) hr hF hb fun H _ hS => hsp (K w.params) H a ns hlen hS
end Ev

set_option maxHeartbeats 2000000
/-! An own exception with an own __init__ as a value: made by position or by one keyword, its field read, asked by isinstance. -/
namespace Ev
open PySem PySem.Spec PyProof.Rows L2 PySem.HandSPX
section
variable {M : Model} {prog : Program} {w : World} {A : Around} {E : Value → Shared → Prop} {R : Result → Shared → Prop} {h : Heap} {g : Array GenState} {d : Drawn} {t : Nat} {os : OsState}
variable {nm q : Str} {C N : Addr} {bs bm bmB : List Value} {hdct : Bool} {sn : List Str} {sub : List Value} {ab : Bool} {col : Option Bool} {dd : Option Addr} {k0 k1 k2 k3 k5 : Option Value} {B newId initId : String} {kw : List (Str × Value)}
/-- BaseException.__new__ takes any keywords -/
theorem kw_check_new (F : ExcBaseFacts B newId initId bmB) (hT : ∀ X : String, bm.contains (.type X) = bmB.contains (.type X)) {Q : Unit → Shared → Prop}
    (hC : h.get? C = some (excClassObj nm q C N bs bm hdct sn sub ab col dd k0 k1 k2 k3 k5 newId)) (hq : Q () ⟨h, g, d, t, os⟩) (hk : kw.length = 1) : wpAny M A (checkBuiltinCall newId ⟨[.ref C], kw⟩) Q E ⟨h, g, d, t, os⟩ := by
  obtain ⟨kv, rfl⟩ : ∃ kv, kw = [kv] := by
    match kw, hk with
    | [kv], _ => exact ⟨kv, rfl⟩
  have inB : (Value.ref C :: bm).contains (.type B) = true := by rw [List.contains_cons, hT, F.hasB, Bool.or_true]
  have noStar := F.noStar
  simp only [checkBuiltinCall, F.newKind, F.newSplit, F.newRow]
  repeat (first | refine wpAny_loadPart_at hC ?_ | (refine wpAny_isSubtype_exc hC ?_; rw [inB]) | refine wpAny_staticBase_exc hC ?_ | refine wpAny_madeBy_exc hC ?_ | simp only [bne_self_eq_false, Bool.false_eq_true, if_false] | wp_step)
  exact hq
theorem kw_new (F : ExcBaseFacts B newId initId bmB) (hT : ∀ X : String, bm.contains (.type X) = bmB.contains (.type X))
    (hC : h.get? C = some (excClassObj nm q C N bs bm hdct sn sub ab col dd k0 k1 k2 k3 k5 newId))
    (hq : R (.ok (.ret (.ref (h.objs.size + 1)))) ⟨(h.push (W.kdv_tup [])).push (excO C h.objs.size), g, d, t, os⟩) : codeAny (model prog w) A (.builtin newId ⟨[.ref C], kw⟩) R ⟨h, g, d, t, os⟩ := by
  have hends := F.ends
  have inB : (Value.ref C :: bm).contains (.type B) = true := by rw [List.contains_cons, hT, F.hasB, Bool.or_true]
  have inA : (Value.ref C :: bm).contains (.type "AttributeError") = false := by rw [List.contains_cons, hT, F.noAttr]; rfl
  have inN : (Value.ref C :: bm).contains (.type "NameError") = false := by rw [List.contains_cons, hT, F.noName]; rfl
  refine codeAny_builtinAt F.entry ?_
  unfold Builtin.«BaseException.__new__»
  refine PySem.wpAt_bind ?_
  show PySem.wpAt _ _ _ (stack >>= _) _ _ _
  refine PySem.wpAt_bind (PySem.wpAt_stack fun p below => PySem.wpAt_of_wpAny ?_)
  wp_walk
  refine PySem.wpAt_of_wpAny ?_
  rw [F.owner]
  repeat (first | with_reducible refine wpAny_madeHere_exc F.canon hC ?_ | with_reducible refine wpAny_loadPart_at hC ?_ | (with_reducible refine wpAny_isSubtype_exc hC ?_; first | rw [inB] | rw [inA] | rw [inN]) | wp_step)
  show R _ _
  rw [Heap.size_push]
  exact hq
theorem kw_check_call (hC : h.get? C = some (excClassObj nm q C N bs bm hdct sn sub ab col dd k0 k1 k2 k3 k5 newId)) (hk : kw.length = 1) {Q : Unit → Shared → Prop} (hq : Q () ⟨h, g, d, t, os⟩) :
    wpAny M A (checkBuiltinCall "type.__call__" ⟨[.ref C], kw⟩) Q E ⟨h, g, d, t, os⟩ := by
  obtain ⟨kv, rfl⟩ : ∃ kv, kw = [kv] := by
    match kw, hk with
    | [kv], _ => exact ⟨kv, rfl⟩
  have f3 := tc_sub
  have isT : (⟨h, g, d, t, os⟩ : Shared).TypeIs (.ref C) "type" := ⟨_, hC, rfl⟩
  simp only [checkBuiltinCall, tc_kind, tc_split]
  repeat (any_goals (first | assumption | with_reducible refine wpAny_loadPart_at hC ?_ | with_reducible refine wpAny_onRaise ?_ | with_reducible refine wpAny_map ?_ | wp_step))
theorem kw_type_call (F : ExcBaseFacts B newId initId bmB) (hT : ∀ X : String, bm.contains (.type X) = bmB.contains (.type X)) {fI : Addr} {Q : PySem.Fin → Shared → Prop} (hk : kw.length = 1)
    (hC : h.get? C = some (excClassObj nm q C N bs bm hdct sn sub ab col dd k0 k1 k2 k3 k5 newId))
    (hi : W.Looks (model prog w) h (typeLookup (.ref C) "__init__") (some (.ref fI))) (hb : ∀ self, W.Looks (model prog w) h (bindSpecial (.ref fI) self) (.ref fI, [self]))
    (hq : codeAny (model prog w) A (.call (.ref fI) ⟨[.ref (h.objs.size + 1)], kw⟩)
      (fun r s' => match r with | .ok (.ret v) => v = .none ∧ Q (.done (.ret (.ref (h.objs.size + 1)))) s' | .ok _ => False | .error e => E e s')
      ⟨(h.push (W.kdv_tup [])).push (excO C h.objs.size), g, d, t, os⟩) :
    wpAny (model prog w) A (Builtin.«type.__call__» ⟨[.ref C], kw⟩) Q E ⟨h, g, d, t, os⟩ := by
  repeat (first | with_reducible refine wpAny_loadPart_at hC ?_ | with_reducible refine wpAny_madeBy_exc hC ?_ | wp_step)
  refine codeAny_call_builtin_code (Code.quiet_builtin _ F.quiet) (kw_check_new F hT hC ?_ hk)
  refine kw_new F hT hC ?_
  show wpAny _ _ _ _ _ _
  have up : ∀ b o, h.get? b = some o → ((h.push (W.kdv_tup [])).push (excO C h.objs.size)).get? b = some o := fun b o e => Heap.get?_push_of_some _ (Heap.get?_push_of_some _ e)
  have hC2 := up _ _ hC
  have hnew : ((h.push (W.kdv_tup [])).push (excO C h.objs.size)).get? (h.objs.size + 1) = some (excO C h.objs.size) := by heap_get
  have inC : (Value.ref C :: bm).contains (.ref C) = true := by simp
  have i1 := hi.keeps up
  have b1 := (hb (.ref (h.objs.size + 1))).keeps up
  unfold isInstance
  repeat (first | with_reducible refine wpAny_loadPart_at hnew ?_ | (with_reducible refine wpAny_isSubtype_exc hC2 ?_; rw [inC]) | wp_step)
  show wpAny _ _ (typeLookup (.ref C) _) _ _ _
  refine i1.at ?_
  refine wpAny_holding (wpAny_bind (b1.at ?_))
  refine wpAny_bind (wpAny_call (codeAny_mono hq fun r s' z => ?_))
  rcases r with e | (_ | _ | _ | v)
  · exact z
  · exact z.elim
  · exact z.elim
  · exact z.elim
  · obtain ⟨rfl, z⟩ := z
    first
      | exact wpAny_pure (wpAny_pure z)
      | (wp_walk; exact z)
/-- C(n = v), C an own exception class with an own __init__ -/
theorem kw_call (F : ExcBaseFacts B newId initId bmB) (hT : ∀ X : String, bm.contains (.type X) = bmB.contains (.type X)) {fI : Addr} (hk : kw.length = 1)
    (hC : h.get? C = some (excClassObj nm q C N bs bm hdct sn sub ab col dd k0 k1 k2 k3 k5 newId))
    (hi : W.Looks (model prog w) h (typeLookup (.ref C) "__init__") (some (.ref fI))) (hb : ∀ self, W.Looks (model prog w) h (bindSpecial (.ref fI) self) (.ref fI, [self]))
    (hq : codeAny (model prog w) (A.under (.builtin "type.__call__" ⟨[.ref C], kw⟩)) (.call (.ref fI) ⟨[.ref (h.objs.size + 1)], kw⟩) (W.InitBack (h.objs.size + 1) R)
      ⟨(h.push (W.kdv_tup [])).push (excO C h.objs.size), g, d, t, os⟩) : codeAny (model prog w) A (.call (.ref C) ⟨[], kw⟩) R ⟨h, g, d, t, os⟩ := by
  have f1 := tc_lookup
  have f2 := tc_bind (.ref C)
  have isT : (⟨h, g, d, t, os⟩ : Shared).TypeIs (.ref C) "type" := ⟨_, hC, rfl⟩
  refine codeAny_of_tree ?_
  show wpAny _ _ (callAny (.ref C) _) _ _ _
  repeat (any_goals (first | assumption | with_reducible refine wpAny_loadPart_at hC ?_ | wp_step))
  refine ⟨rfl, ?_⟩
  refine codeAny_call_builtin_at (Code.quiet_builtin _ (by decide +kernel)) entry_typeCall (kw_check_call hC hk (kw_type_call F hT hk hC hi hb ?_))
  refine codeAny_mono hq fun r s' z => ?_
  rcases r with e | (_ | _ | _ | v) <;> exact z
end
end Ev

set_option maxHeartbeats 2000000
/-! The rules for such a value. -/
namespace Ev
open PySem PySem.Spec PyProof.Rows L2 PySem.HandSPX
/-- C(e), C(n = e): C an own exception class, its __init__ keeping sp -/
def tMkV (C : Addr) (sp : Sp) (ta : TA) : TE := fun σ H Q => ta σ H fun vs H1 => ∃ y, vs = [y] ∧ ∀ a, H1 a = none → sp [.ref a, y] (upd H1 a (exo a C none)) (fun v H2 => v = .non ∧ Q (.ref a) H2) (fun _ _ _ => False)
section
variable {X : Cx} {CX : CXT} {k : Nat} {C fI : Addr} {fd : FuncData} {ps : List Str} {sp : Sp} {x : Str} {p pos : Pos} {e : Expr} {es : List Expr} {ta : TA} {kws : List Keyword} {n : Str}
/-- what follows the call of __init__ -/
theorem mkv_end {pins : List (Addr × Obj)} {σ : L2.St} {H : Hp} {s : Shared} {a : Addr} {Q : VK} {r : Result} {s' : Shared} {E : XK} (I : Inv X pins σ H s) (hx : Passes CX X (fun _ _ _ => False))
    (hq : CR CX X.stack X.prog X.w H s (fun v H2 => v = .non ∧ Q (.ref a) H2) (fun _ _ _ => False) r s') :
    PySem.W.InitBack a (fun r s2 => match r with | .ok (.ret u) => EP X pins σ Q u s2 | .ok _ => False | .error er => X.xe er s2) r s' := by
  rcases r with er | (_ | _ | _ | u)
  · exact hx pins σ H s er s' I hq
  · exact False.elim hq
  · exact False.elim hq
  · exact False.elim hq
  · obtain ⟨v, H2, I2, rv, ev, q⟩ := I.after hq
    subst ev
    exact ⟨rv, .ref a, H2, I2, rfl, q⟩
theorem pe_oexV (T : OexC X.K C) (iC : PySem.W.findIn X.K (.ref C) "__init__" = some (some (.ref fI))) (tI : PySem.W.typeIn X.K (.ref fI) = some (.type "function"))
    (F1 : FnOk X.prog X.w X.K X.mg X.base CX k fI fd ps sp) (hr : Room (k + 1) X.A) (hb : Binds X.K fd ps []) (hx : Passes CX X (fun _ _ _ => False)) (hg : Gl X x) (hm : X.mg x = some (.ref C)) (ha : PA X (e :: es) ta)
    (hdb : (x == ("__debug__" : Str)) = false := by decide) (he : starEach (e :: es) X.env = (false, eval e X.env) :: starEach es X.env := by rfl) (hpl : (backTo pos (starEach es X.env)).any (·.1) = false := by rfl) :
    PE X (.Call (.Name x p) (e :: es) [] pos) (tMkV C sp ta) := ⟨fun pins s σ H Q I h => by
  obtain ⟨nm, q, N, bs, bm, sn, sub, ab, col, dd, k0, k1, k2, k3, k5, hC, hbm⟩ := T.cls
  refine wpAny_Call_Name_kw (ld_glob I hg hm ?_ hdb)
  refine PySem.W.callWith_K (h₀ := X.base) I.ok.mod.kin T.kC (thn (ha.run pos pins s σ H _ I h) fun us s1 got => ?_) he hpl
  obtain ⟨vs, H1, I1, r1, y, rfl, q1⟩ := got
  refine ⟨I1.kIn, ?_⟩
  obtain ⟨hp, g, dr, tk, os⟩ := s1
  have up : ∀ b o, hp.get? b = some o → ((hp.push (PySem.W.kdv_tup us)).push (excO C hp.objs.size)).get? b = some o := fun b o z => Heap.get?_push_of_some _ (Heap.get?_push_of_some _ z)
  have hnew : ((hp.push (PySem.W.kdv_tup us)).push (excO C hp.objs.size)).get? (hp.objs.size + 1) = some (excO C hp.objs.size) := by heap_get
  have I2 : Inv X pins σ (upd H1 (hp.objs.size + 1) (exo (hp.objs.size + 1) C none)) ⟨(hp.push (PySem.W.kdv_tup us)).push (excO C hp.objs.size), g, dr, tk, os⟩ :=
    I1.laid (t' := tk) (a := hp.objs.size + 1) (o := exo (hp.objs.size + 1) C none) (h' := (hp.push (PySem.W.kdv_tup us)).push (excO C hp.objs.size)) up (Nat.le_succ _) (exo_ok hnew)
  have hsp := q1 (hp.objs.size + 1) (I1.hok.fresh (Nat.le_succ _))
  have r2 : Vals [V.ref (hp.objs.size + 1), y] (Value.ref (hp.objs.size + 1) :: us) := .cons rfl r1
  have hl : (Value.ref (hp.objs.size + 1) :: us ++ []).length = ps.length := by
    rw [List.append_nil, ← F1.len _ _ _ _ hsp, r2.length]
  have hb1 := hb ⟨(hp.push (PySem.W.kdv_tup us)).push (excO C hp.objs.size), g, dr, tk, os⟩ (Value.ref (hp.objs.size + 1) :: us) I2.kIn hl
  rw [List.append_nil] at hb1
  have hus : us.length ≤ sizeLine := by
    rw [← Paired.length r1, sizeLine_eq]
    exact (by decide : 1 ≤ 16777216)
  show wpAny _ _ (call (.ref C) us) _ _ _
  refine wpAny_call (call_own F.excBase_ValueError (fun Y => refsVE_contains Y bm hbm) (I1.kIn _ _ hC) (PySem.W.looks_findIn I1.kIn iC) (fun self => PySem.W.bind_fn I1.kIn self tI) hus ?_)
  refine codeAny_mono (F1.run _ X.stack _ _ ⟨Value.ref (hp.objs.size + 1) :: us, []⟩ (Value.ref (hp.objs.size + 1) :: us) _ _ (fun _ _ _ => False) (hr.make C us []) (I2.env0.make C us []) hb1 r2 hsp) fun r s' hq => ?_
  have z := mkv_end (E := fun _ _ _ => False) I2 hx hq
  rcases r with er | (_ | _ | _ | u) <;> exact z⟩
/-- C(n = e) -/
theorem pe_oexK (T : OexC X.K C) (iC : PySem.W.findIn X.K (.ref C) "__init__" = some (some (.ref fI))) (tI : PySem.W.typeIn X.K (.ref fI) = some (.type "function"))
    (F1 : FnOk X.prog X.w X.K X.mg X.base CX k fI fd ps sp) (hr : Room (k + 1) X.A) (hb : ∀ (s : Shared) (a u : Value), BindsTo s fd ⟨[a], [(n, u)]⟩ (ps.zip [a, u])) (hx : Passes CX X (fun _ _ _ => False)) (hg : Gl X x) (hm : X.mg x = some (.ref C)) (hkw : PK X kws ta)
    (hall : (backToKw pos (keywordEach kws X.env)).all (·.1.isSome) = true := by rfl) (hks : (backToKw pos (keywordEach kws X.env)).filterMap (·.1) = [n] := by rfl) (hdb : (x == ("__debug__" : Str)) = false := by decide)
    (hpl : ((backTo pos (starEach [] X.env)).any (·.1) || (backToKw pos (keywordEach kws X.env)).any (·.1.isNone)) = false := by rfl) :
    PE X (.Call (.Name x p) [] kws pos) (tMkV C sp ta) := ⟨fun pins s σ H Q I h => by
  obtain ⟨nm, q, N, bs, bm, sn, sub, ab, col, dd, k0, k1, k2, k3, k5, hC, hbm⟩ := T.cls
  refine wpAny_Call_Name_kw (ld_glob I hg hm ?_ hdb)
  refine PySem.W.callWith_KW0 (h₀ := X.base) I.ok.mod.kin T.kC hall ?_ hpl
  refine thn (hkw.run pos pins s σ H _ I h) fun us s1 got => ?_
  obtain ⟨vs, H1, I1, r1, y, rfl, q1⟩ := got
  refine ⟨I1.kIn, ?_⟩
  rw [hks]
  obtain ⟨u, rfl, ru⟩ := vals1 r1
  obtain ⟨hp, g, dr, tk, os⟩ := s1
  have up : ∀ b o, hp.get? b = some o → ((hp.push (PySem.W.kdv_tup [])).push (excO C hp.objs.size)).get? b = some o := fun b o z => Heap.get?_push_of_some _ (Heap.get?_push_of_some _ z)
  have hnew : ((hp.push (PySem.W.kdv_tup [])).push (excO C hp.objs.size)).get? (hp.objs.size + 1) = some (excO C hp.objs.size) := by heap_get
  have I2 : Inv X pins σ (upd H1 (hp.objs.size + 1) (exo (hp.objs.size + 1) C none)) ⟨(hp.push (PySem.W.kdv_tup [])).push (excO C hp.objs.size), g, dr, tk, os⟩ :=
    I1.laid (t' := tk) (a := hp.objs.size + 1) (o := exo (hp.objs.size + 1) C none) (h' := (hp.push (PySem.W.kdv_tup [])).push (excO C hp.objs.size)) up (Nat.le_succ _) (exo_ok hnew)
  have hsp := q1 (hp.objs.size + 1) (I1.hok.fresh (Nat.le_succ _))
  have r2 : Vals [V.ref (hp.objs.size + 1), y] [Value.ref (hp.objs.size + 1), u] := .cons rfl (.cons ru .nil)
  show wpAny _ _ (call (.ref C) [] [(n, u)]) _ _ _
  refine wpAny_call (kw_call F.excBase_ValueError (fun Y => refsVE_contains Y bm hbm) rfl (I1.kIn _ _ hC) (PySem.W.looks_findIn I1.kIn iC) (fun self => PySem.W.bind_fn I1.kIn self tI) ?_)
  refine codeAny_mono (F1.run _ X.stack _ _ ⟨[Value.ref (hp.objs.size + 1)], [(n, u)]⟩ [Value.ref (hp.objs.size + 1), u] _ _ (fun _ _ _ => False) (hr.make C [] [(n, u)]) (I2.env0.make C [] [(n, u)]) (hb _ _ _) r2 hsp) fun r s' hq => ?_
  have z := mkv_end (E := fun _ _ _ => False) I2 hx hq
  rcases r with er | (_ | _ | _ | v) <;> exact z⟩
/-- what the written part says of the class, so that an object of it may be read and asked -/
structure ExV (K : PySem.W.Frag) (C : Addr) : Prop where
  ga : PySem.W.findIn K (.ref C) "__getattribute__" = some (some (.builtin "BaseException.__getattribute__"))
  gg : PySem.W.findIn K (.ref C) "__getattr__" = some none
  ex : PySem.W.subIn K (.ref C) (.type "BaseException") = some true
  hd : PySem.W.hasDictIn K C = true
  ac : PySem.W.findIn K (.ref C) "__class__" = some (some (.builtin "object.__class__"))
  sn : PySem.W.specialIn K (.builtin "object.__class__") "__get__" = some (some (.builtin "getset_descriptor.__get__"))
  tk : PySem.W.takesIn K (.builtin "object.__class__") = some true
  mr : PySem.W.mroIn K C (.type "object") = some true
/-- e.f of such an object, f in its own dict -/
def tXv (K : PySem.W.Frag) (f : Str) (te : TE) : TE := fun σ H Q => te σ H fun x H1 => ∃ (a C dx : Addr) (fs : List (Str × V)) (v : V), x = .ref a ∧ H1 a = some (exo a C (some dx)) ∧ H1 dx = some (exd dx fs) ∧ ExV K C ∧ PySem.W.findIn K (.ref C) f = some none ∧ fs.lookup f = some v ∧ Q v H1
theorem pe_xv {o : Expr} {to : TE} {f : Str} (he : PE X o to) (hb : attributeBase o f X.env (eval o X.env) = eval o X.env := by rfl) : PE X (.Attribute o f pos) (tXv X.K f to) := ⟨fun pins s σ H Q I h => by
  refine attr_of hb (thn (he.run pins s σ H _ I h) fun u s1 got => ?_)
  obtain ⟨x, H1, I1, rx, a, C, dx, fs, v, rfl, ea, ed, T, hno, hl, q⟩ := got
  obtain rfl : u = Value.ref a := rx
  obtain ⟨t1, ho⟩ := exo_at I1.hok ea
  obtain ⟨mA, hns, hrel⟩ := exd_at I1.hok ed
  obtain ⟨od, hod, look⟩ := lookIn_ns hns
  obtain ⟨u, hu, ru⟩ := RelO.some_of (v := v) (o := mA f) (by rw [← hl]; exact hrel f)
  have J : PySem.W.InstAt s1.heap a { cls := .ref C, dict := some dx, data := .fields #[.ref t1, .none, .none, .none, .bool false, .none] } C (some od) := ⟨ho, rfl, rfl, hod⟩
  exact exc_get I1.kIn J T.ga T.gg T.ex (PySem.W.findObj_own T.hd hno rfl (by rw [look, hu])) (handed_of ru) ⟨v, H1, I1.tok _, ru, q⟩⟩
/-- isinstance(e, c) of such an object -/
def rIsV (K : PySem.W.Frag) : List V → Hp → VK → Prop := fun xs H Q => ∃ (a C dx : Addr) (fs : List (Str × V)) (c : V) (u : Value) (b : Bool), xs = [.ref a, c] ∧ ClsV c u ∧ H a = some (exo a C (some dx)) ∧ H dx = some (exd dx fs) ∧ ExV K C ∧ PySem.W.kitOne K (.ref C) u = some b ∧ Q (.bl b) H
/-- isinstance(e, (c1, c2, ..)) -/
def rIsVT (K : PySem.W.Frag) : List V → Hp → VK → Prop := fun xs H Q => ∃ (a C dx tp : Addr) (fs : List (Str × V)) (cs : List V) (us : List Value) (b : Bool), xs = [.ref a, .ref tp] ∧ H tp = some (.tup cs) ∧ Paired ClsV cs us ∧ H a = some (exo a C (some dx)) ∧ H dx = some (exd dx fs) ∧ ExV K C ∧
  PySem.W.kitAny K (.ref C) us = some b ∧ Q (.bl b) H
theorem ExV.kit {K : PySem.W.Frag} {C a : Addr} {ox : Obj} {od : Option Obj} (T : ExV K C) : PySem.W.KitX K (.ref a) (.ref C) (fun h => PySem.W.InstAt h a ox C od) := by
  obtain ⟨cd, hc, _⟩ := PySem.W.any_some T.hd
  exact PySem.W.kitx_exc (by rw [hc]; rfl) T.ga T.gg T.ex T.ac T.sn T.tk T.mr
theorem inst_of {pins : List (Addr × Obj)} {σ : L2.St} {H : Hp} {s : Shared} {a dx : Addr} {fs : List (Str × V)} (I : Inv X pins σ H s) (ea : H a = some (exo a C (some dx))) (ed : H dx = some (exd dx fs)) : ∃ ox od, PySem.W.InstAt s.heap a ox C (some od) := by
  obtain ⟨t1, ho⟩ := exo_at I.hok ea
  obtain ⟨mA, hns, _⟩ := exd_at I.hok ed
  obtain ⟨od, hod, _⟩ := lookIn_ns hns
  exact ⟨_, od, ho, rfl, rfl, hod⟩
theorem call_isV : CallR X (.builtin "isinstance") (rIsV X.K) := by
  intro pins s σ H xs us Q I r h
  obtain ⟨a, C, dx, fs, c, u, b, rfl, k, ea, ed, T, e, q⟩ := h
  obtain ⟨u1, u2, rfl, r1, r2⟩ := vals2 r
  obtain rfl : u1 = Value.ref a := r1
  have e2 := k.eq r2
  subst e2
  obtain ⟨ox, od, J⟩ := inst_of I ea ed
  exact PySem.W.kia_one T.kit I.kIn J e (fun z => nomatch z) fun tk => ⟨.bl b, H, I.tok tk, rfl, q⟩
theorem call_isVT : CallR X (.builtin "isinstance") (rIsVT X.K) := by
  intro pins s σ H xs us Q I r h
  obtain ⟨a, C, dx, tp, fs, cs, vs, b, rfl, etp, k, ea, ed, T, e, q⟩ := h
  obtain ⟨u1, u2, rfl, r1, r2⟩ := vals2 r
  obtain rfl : u1 = Value.ref a := r1
  obtain rfl : u2 = Value.ref tp := r2
  obtain ⟨ox, od, J⟩ := inst_of I ea ed
  obtain ⟨_, its, rv, ob, ho, hc, n, hd⟩ := (show ObjOk X.prog X.w H s.heap tp (.tup cs) from I.hok tp _ etp)
  have ei := ClsV.all k rv
  subst ei
  obtain ⟨oc, od', oda, osl⟩ := ob
  dsimp only at hc hd
  subst hc hd
  exact PySem.W.kia_tup T.kit I.kIn J ho e (fun z => nomatch z) fun tk => ⟨.bl b, H, I.tok tk, rfl, q⟩
end
end Ev

set_option maxHeartbeats 2000000
/-! Readings step by step: one small lemma a construct, tried by one word. -/
namespace Ev
open PySem PySem.Spec PyProof.Rows L2
section
variable {K : PySem.W.Frag} {σ : L2.St} {H : Hp} {Q : VK} {D : Ends} {ta tb tc te : TE} {x y v : V} {xs ys : List V} {t u : TS} {a p l b : Addr} {o o' : HO} {i j : Int}
/-! heaps -/
theorem lk_new {u : HO} (h : H a = some u) (hp : H p = none) : upd H p o a = some u := by
  rw [upd_ne (ne_of_none h hp)]
  exact h
theorem lk_ne {u : HO} (ne : a ≠ p) (h : H a = some u) : upd H p o a = some u := by
  rw [upd_ne ne]
  exact h
theorem no_new (h : H a = none) (ne : a ≠ p) : upd H p o a = none := by
  rw [upd_ne ne]
  exact h
theorem no_back (h : upd H p o a = none) : H a = none := by
  by_cases e : a = p
  · subst e
    rw [upd_same] at h
    cases h
  · rw [upd_ne e] at h
    exact h
theorem ne_back (h : upd H p o a = none) : a ≠ p := fun e => by
  subst e
  rw [upd_same] at h
  cases h
theorem upd_none : upd H p o a = none ↔ a ≠ p ∧ H a = none := ⟨fun h => ⟨ne_back h, no_back h⟩, fun h => no_new h.2 h.1⟩
theorem lk_new' {u : HO} (hp : H p = none) (h : H a = some u) : upd H p o a = some u := lk_new h hp
/-! values -/
theorem rd_var {i : Nat} (h : σ[i]? = some (some v)) (q : Q v H) : tVar i σ H Q := ⟨v, h, q⟩
theorem rd_c (q : Q v H) : tC v σ H Q := q
theorem rd_op {r : R2} (h : ta σ H fun x H1 => tb σ H1 fun y H2 => r x y H2 Q) : tOp r ta tb σ H Q := h
theorem rd_un {r : V → Hp → VK → Prop} (h : ta σ H fun x H1 => r x H1 Q) : tUn r ta σ H Q := h
theorem rd_rI0 {g : Int → Int → V} (q : Q (g i j) H) : rI0 g (.int i) (.int j) H Q := ⟨i, j, rfl, rfl, q⟩
theorem rd_rI {C : Int → Int → Prop} {g : Int → Int → V} (c : C i j) (q : Q (g i j) H) : rI C g (.int i) (.int j) H Q := ⟨i, j, rfl, rfl, c, q⟩
theorem rd_rU {g : Int → V} (q : Q (g i) H) : rU g (.int i) H Q := ⟨i, rfl, q⟩
theorem rd_ixL (h : SqL K H a xs) (e : atI xs i = some v) (q : Q v H) : rIxL K (.ref a) (.int i) H Q := ⟨a, xs, i, v, rfl, rfl, h, e, q⟩
theorem rd_ixT (h : SqT K H a xs) (e : atI xs i = some v) (q : Q v H) : rIxT K (.ref a) (.int i) H Q := ⟨a, xs, i, v, rfl, rfl, h, e, q⟩
theorem rd_eq (h : scal x y = true) (q : Q (.bl (decide (x = y))) H) : rEq x y H Q := ⟨h, q⟩
theorem rd_ne (h : scal x y = true) (q : Q (.bl (!decide (x = y))) H) : rNe x y H Q := ⟨h, q⟩
theorem rd_tup {ta : TA} (h : ta σ H fun xs H1 => xs.length ≤ sizeLine ∧ ∀ p, H1 p = none → Q (.ref p) (upd H1 p (.tup xs))) : tTup ta σ H Q := h
theorem rd_lst {ta : TA} (h : ta σ H fun xs H1 => xs.length ≤ sizeLine ∧ ∀ p, H1 p = none → Q (.ref p) (upd H1 p (.lst xs))) : tLst ta σ H Q := h
theorem rd_size {n : Nat} {A : Prop} (hn : n ≤ 16777216) (h : A) : n ≤ sizeLine ∧ A := ⟨by rw [sizeLine_eq]; exact hn, h⟩
theorem rd_nil {Q : List V → Hp → Prop} (q : Q [] H) : tNil σ H Q := q
theorem rd_cons {tr : TA} {Q : List V → Hp → Prop} (h : ta σ H fun x H1 => tr σ H1 fun xs H2 => Q (x :: xs) H2) : tCons ta tr σ H Q := h
theorem rd_cb {r : List V → Hp → VK → Prop} {t : TA} (h : t σ H fun vs H1 => r vs H1 Q) : tCB r t σ H Q := h
theorem rd_call {sp : Sp} {dvs : List V} {E : XK} {t : TA} (h : t σ H fun vs H1 => sp (vs ++ dvs) H1 Q E) : tCall sp dvs E t σ H Q := h
theorem rd_sl {r : V → Option Int → Option Int → Hp → VK → Prop} {tl th : TO} (h : te σ H fun x H1 => tl σ H1 fun l H2 => th σ H2 fun u H3 => r x l u H3 Q) : tSl r te tl th σ H Q := h
theorem rd_no {Q : Option Int → Hp → Prop} (q : Q none H) : tNoPart σ H Q := q
theorem rd_part {Q : Option Int → Hp → Prop} (h : te σ H fun x H1 => ∃ i, x = .int i ∧ Q (some i) H1) : tPart te σ H Q := h
theorem rd_ex {Q : Int → Prop} (q : Q i) : ∃ j : Int, V.int i = .int j ∧ Q j := ⟨i, rfl, q⟩
theorem rd_slL {lo hi : Option Int} (h : SqL K H a xs) (q : ∀ p, H p = none → Q (.ref p) (upd H p (.lst (cutV xs lo hi)))) : rSlL K (.ref a) lo hi H Q := ⟨a, xs, rfl, h, q⟩
theorem rd_cat (h1 : H a = some (.lst xs)) (h2 : H b = some (.lst ys)) (hz : xs.length + ys.length ≤ 16777216) (q : ∀ p, H p = none → Q (.ref p) (upd H p (.lst (xs ++ ys)))) : rCat (.ref a) (.ref b) H Q :=
  ⟨a, b, xs, ys, rfl, rfl, h1, h2, by rw [sizeLine_eq]; exact hz, q⟩
theorem rd_ifE {c : TT} (h : c σ H fun k H1 => if k = true then ta σ H1 Q else tb σ H1 Q) : tIf c ta tb σ H Q := h
/-! tests -/
theorem rd_test {Q : Bool → Hp → Prop} (h : te σ H fun x H1 => ∃ k, x = .bl k ∧ Q k H1) : tTest te σ H Q := h
theorem rd_tB {Q : Bool → Hp → Prop} (h : te σ H fun x H1 => ∃ k, x = .bl k ∧ Q k H1) : tB te σ H Q := h
theorem rd_bl {c : Bool} {Q : Bool → Prop} (q : Q c) : ∃ k, V.bl c = .bl k ∧ Q k := ⟨c, rfl, q⟩
theorem rd_not {c : TT} {Q : Bool → Hp → Prop} (h : c σ H fun k H1 => Q (!k) H1) : tNot c σ H Q := h
theorem rd_and {c d : TT} {Q : Bool → Hp → Prop} (h : c σ H fun k H1 => if k = true then d σ H1 Q else Q false H1) : tAnd c d σ H Q := h
theorem rd_or {c d : TT} {Q : Bool → Hp → Prop} (h : c σ H fun k H1 => if k = true then Q true H1 else d σ H1 Q) : tOr c d σ H Q := h
theorem rd_notV (h : ta σ H fun x H1 => ∃ c, x = .bl c ∧ Q (.bl (!c)) H1) : tNotV ta σ H Q := h
theorem rd_andV (h : ta σ H fun x H1 => ∃ c, x = .bl c ∧ if c = true then tb σ H1 Q else Q (.bl false) H1) : tAndV ta tb σ H Q := h
theorem rd_orV (h : ta σ H fun x H1 => ∃ c, x = .bl c ∧ if c = true then Q (.bl true) H1 else tb σ H1 Q) : tOrV ta tb σ H Q := h
/-! statements -/
theorem rd_seq (h : t { D with nx := u D } σ H) : tSeq t u D σ H := h
theorem rd_next (h : D.nx σ H) : tNext D σ H := h
theorem rd_ret (h : te σ H D.rt) : tRet te D σ H := h
theorem rd_retN (h : D.rt .non H) : tRetN D σ H := h
theorem rd_if {c : TT} (h : c σ H fun k H1 => if k = true then t D σ H1 else u D σ H1) : tIfS c t u D σ H := h
theorem rd_drop (h : te σ H fun _ H1 => D.nx σ H1) : tDrop te D σ H := h
theorem rd_asg {g : TG} (h : te σ H fun x H1 => g x σ H1 D.nx) : tAsg te g D σ H := h
theorem rd_name {i : Nat} {Q : L2.St → Hp → Prop} (q : Q (σ.set i (some v)) H) : gName i v σ H Q := q
theorem rd_gtup {n : Nat} {g : TGs} {Q : L2.St → Hp → Prop} (h : SqT K H a xs) (e : xs.length = n) (q : g xs σ H Q) : gTup K n g (.ref a) σ H Q := ⟨a, xs, rfl, h, e, q⟩
theorem rd_gnil {Q : L2.St → Hp → Prop} (q : Q σ H) : gNil [] σ H Q := ⟨rfl, q⟩
theorem rd_gcons {g : TG} {gs : TGs} {Q : L2.St → Hp → Prop} (q : g v σ H fun σ' H' => gs xs σ' H' Q) : gCons g gs (v :: xs) σ H Q := ⟨v, xs, rfl, q⟩
theorem rd_gsub {to ti : TE} {s : TSet} {Q : L2.St → Hp → Prop} (h : to σ H fun o H1 => ti σ H1 fun i H2 => s o i v H2 fun H3 => Q σ H3) : gSub to ti s v σ H Q := h
theorem rd_setL {k : Nat} {Q : Hp → Prop} (h : H a = some (.lst xs)) (e : ixN xs.length i = some k) (q : Q (upd H a (.lst (xs.set k v)))) : rSetL (.ref a) (.int i) v H Q := ⟨a, xs, i, k, rfl, rfl, h, e, q⟩
/-! ifs -/
theorem rd_ite {p : Prop} [Decidable p] {A B : Prop} (h1 : p → A) (h2 : ¬ p → B) : if decide p = true then A else B := by
  by_cases h : p
  · rw [if_pos (decide_eq_true h)]
    exact h1 h
  · rw [if_neg (by rw [decide_eq_false h]; exact Bool.false_ne_true)]
    exact h2 h
theorem rd_iteN {p : Prop} [Decidable p] {A B : Prop} (h1 : ¬ p → A) (h2 : p → B) : if (!decide p) = true then A else B := by
  by_cases h : p
  · rw [if_neg (by rw [decide_eq_true h]; exact Bool.false_ne_true)]
    exact h2 h
  · rw [if_pos (by rw [decide_eq_false h]; rfl)]
    exact h1 h
theorem rd_T {A B : Prop} (h : A) : if true = true then A else B := by
  rw [if_pos rfl]
  exact h
theorem rd_F {A B : Prop} (h : B) : if false = true then A else B := by
  rw [if_neg Bool.false_ne_true]
  exact h
theorem rd_True {A B : Prop} {i : Decidable True} (h : A) : @ite Prop True i A B := by
  rw [if_pos trivial]
  exact h
theorem rd_False {A B : Prop} {i : Decidable False} (h : B) : @ite Prop False i A B := by
  rw [if_neg (fun z => z)]
  exact h
/-! built-ins -/
theorem rd_int {A : Int → Prop} {B : Prop} (q : A i) : (∃ j, [V.int i] = [.int j] ∧ A j) ∨ B := .inl ⟨i, rfl, q⟩
theorem rd_intB {c : Bool} {A : Int → Prop} (q : A (if c then 1 else 0)) : (∃ j, [V.bl c] = [.int j] ∧ A j) ∨ ∃ k, [V.bl c] = [.bl k] ∧ A (if k then 1 else 0) := .inr ⟨c, rfl, q⟩
theorem rd_one {A : Int → Prop} (q : A i) : ∃ j, [V.int i] = [.int j] ∧ A j := ⟨i, rfl, q⟩
theorem rd_two {A : Int → Int → Prop} (q : A i j) : ∃ k l, [V.int i, V.int j] = [.int k, .int l] ∧ A k l := ⟨i, j, rfl, q⟩
theorem rd_len {A : List V → Prop} (h : SqL K H a xs) (q : A xs) : ∃ p zs, [V.ref a] = [.ref p] ∧ (SqL K H p zs ∨ SqT K H p zs) ∧ A zs := ⟨a, xs, rfl, .inl h, q⟩
theorem rd_lenT {A : List V → Prop} (h : SqT K H a xs) (q : A xs) : ∃ p zs, [V.ref a] = [.ref p] ∧ (SqL K H p zs ∨ SqT K H p zs) ∧ A zs := ⟨a, xs, rfl, .inr h, q⟩
theorem at_int {ns : List Int} {i : Int} (h0 : 0 ≤ i) (h : i < (ns.length : Int)) : ∃ z, atI (ns.map V.int) i = some (.int z) := by
  obtain ⟨k, rfl⟩ : ∃ k : Nat, i = (k : Int) := ⟨i.toNat, by omega⟩
  have hk : k < ns.length := by omega
  exact ⟨ns[k], atI_nat (by rw [List.getElem?_map, List.getElem?_eq_getElem hk]; rfl)⟩
theorem pow_cond {i j : Int} (h0 : 0 ≤ j) (h3 : j ≤ 1000) (h1 : -10000000000000000000000000000000000000000 < i) (h2 : i < 10000000000000000000000000000000000000000) : CPowW i j := by
  have e : (10000000000000000000000000000000000000000 : Nat) < 2 ^ 2000 := by decide +kernel
  exact ⟨h0, h3, by omega⟩
/-! loops and comprehensions: first what they go over, then the turns -/
theorem rd_rng1 {ta : TA} {R : It → Hp → Prop} (h : ta σ H fun vs H1 => ∃ j : Int, vs = [.int j] ∧ -(2 ^ 62) ≤ j ∧ j < 2 ^ 62 ∧ R (Itr 0 j.toNat) H1) : iRng1 ta σ H R := h
theorem rd_rg {A : Prop} (h1 : 0 ≤ i) (h2 : i ≤ 1000000000000) (q : A) : -(2 ^ 62) ≤ i ∧ i < 2 ^ 62 ∧ A := ⟨by omega, by omega, q⟩
theorem rd_overL {R : It → Hp → Prop} (h : te σ H fun x H1 => ∃ a, x = .ref a ∧ (∃ xs, SqL K H1 a xs) ∧ R (Itl K a) H1) : iList K te σ H R := h
theorem rd_overT {R : It → Hp → Prop} (h : te σ H fun x H1 => ∃ a, x = .ref a ∧ (∃ xs, SqT K H1 a xs) ∧ R (Itt K a) H1) : iTup K te σ H R := h
theorem rd_atL {A : Addr → Prop} (h : SqL K H a xs) (q : A a) : ∃ b, V.ref a = .ref b ∧ (∃ ys, SqL K H b ys) ∧ A b := ⟨a, rfl, ⟨xs, h⟩, q⟩
theorem rd_atT {A : Addr → Prop} (h : SqT K H a xs) (q : A a) : ∃ b, V.ref a = .ref b ∧ (∃ ys, SqT K H b ys) ∧ A b := ⟨a, rfl, ⟨xs, h⟩, q⟩
theorem rd_forA {ta : TA} {g : TG} {tb : TS} (h : iRng1 ta σ H fun J H1 => tFor (fun _ H' R => R J H') g tb D σ H1) : tFor (iRng1 ta) g tb D σ H := h
theorem rd_forB {g : TG} {tb : TS} (h : iList K te σ H fun J H1 => tFor (fun _ H' R => R J H') g tb D σ H1) : tFor (iList K te) g tb D σ H := h
theorem rd_forC {g : TG} {tb : TS} (h : iTup K te σ H fun J H1 => tFor (fun _ H' R => R J H') g tb D σ H1) : tFor (iTup K te) g tb D σ H := h
theorem rd_lcA {ta : TA} {g : TG} {tt : TT} {vs : List Nat} (h : iRng1 ta σ H fun J H1 => tLc (fun _ H' R => R J H') g tt te vs σ H1 Q) : tLc (iRng1 ta) g tt te vs σ H Q := h
theorem rd_lcB {tl : TE} {g : TG} {tt : TT} {vs : List Nat} (h : iList K tl σ H fun J H1 => tLc (fun _ H' R => R J H') g tt te vs σ H1 Q) : tLc (iList K tl) g tt te vs σ H Q := h
theorem rd_lcC {tl : TE} {g : TG} {tt : TT} {vs : List Nat} (h : iTup K tl σ H fun J H1 => tLc (fun _ H' R => R J H') g tt te vs σ H1 Q) : tLc (iTup K tl) g tt te vs σ H Q := h
theorem rd_forR {lo : Int} {n : Nat} {g : TG} {tb : TS} (Pv : Nat → L2.St → Hp → Prop) (h0 : Pv 0 σ H) (hs : ∀ i σ H, i < n → Pv i σ H → g (.int (lo + i)) σ H fun σ2 H2 => tb { D with nx := Pv (i + 1), ct := Pv (i + 1), bk := D.nx } σ2 H2)
    (hd : ∀ σ H, Pv n σ H → D.nx σ H) : tFor (fun _ H' R => R (Itr lo n) H') g tb D σ H := for_range Pv h0 hs hd
theorem rd_forL {g : TG} {tb : TS} (Pv : Nat → L2.St → Hp → Prop) (h0 : Pv 0 σ H) (hl : ∀ i σ H, i ≤ xs.length → Pv i σ H → SqL K H a xs) (hs : ∀ i x σ H, xs[i]? = some x → Pv i σ H → g x σ H fun σ2 H2 => tb { D with nx := Pv (i + 1), ct := Pv (i + 1), bk := D.nx } σ2 H2)
    (hd : ∀ σ H, Pv xs.length σ H → D.nx σ H) : tFor (fun _ H' R => R (Itl K a) H') g tb D σ H := for_list Pv h0 hl hs hd
theorem rd_forT {g : TG} {tb : TS} (Pv : Nat → L2.St → Hp → Prop) (h0 : Pv 0 σ H) (hl : ∀ i σ H, i ≤ xs.length → Pv i σ H → SqT K H a xs) (hs : ∀ i x σ H, xs[i]? = some x → Pv i σ H → g x σ H fun σ2 H2 => tb { D with nx := Pv (i + 1), ct := Pv (i + 1), bk := D.nx } σ2 H2)
    (hd : ∀ σ H, Pv xs.length σ H → D.nx σ H) : tFor (fun _ H' R => R (Itt K a) H') g tb D σ H := for_tup Pv h0 hl hs hd
/-- [e for x in range(n)], e a value of the turn that makes nothing new -/
theorem rd_lcN {s n : Nat} (f : Nat → V) (hn : n ≤ 16777215) (he : ∀ (i : Nat) (H' : Hp) (Q' : VK), i < n → Q' (f i) H' → te ((σ.set s none).set s (some (.int (0 + i)))) H' Q')
    (q : ∀ l, H l = none → Q (.ref l) (upd H l (.lst ((List.range n).map f)))) : tLc (fun _ H' R => R (Itr 0 n) H') (gName s) tYes te [s] σ H Q := fun l hl => by
  have w1 : ∀ x : Option V, L2.wipe ((L2.wipe σ [s]).set s x) [s] = L2.wipe σ [s] := fun x => by
    show ((σ.set s none).set s x).set s none = σ.set s none
    rw [List.set_set, List.set_set]
  refine lc_range (fun i H' => H' = upd H l (.lst ((List.range i).map f))) rfl (fun i H' hi e => ?_) (fun H' e => ?_)
  · subst e
    refine ⟨w1 _, ?_⟩
    dsimp only [tYes]
    rw [if_pos rfl]
    refine he i _ _ hi ?_
    refine ⟨_, upd_same, ?_, ?_⟩
    · rw [List.length_map, List.length_range, sizeLine_eq]
      omega
    · rw [upd_upd, List.range_succ, List.map_append]
      rfl
  · subst e
    exact q l hl
theorem rd_strs {i j : Str} {A : Str → Str → Prop} (hz : i.length + j.length ≤ sizeLine) (q : A i j) : ∃ k l, V.str i = .str k ∧ V.str j = .str l ∧ k.length + l.length ≤ sizeLine ∧ A k l := ⟨i, j, rfl, rfl, hz, q⟩
/-- xs.append(e) -/
theorem rd_bm {T : String} {r : V → List V → Hp → VK → Prop} {t : TA} (h : te σ H fun x H1 => tyV K T x H1 ∧ t σ H1 fun xs H2 => r x xs H2 Q) : tBM K T r te t σ H Q := h
theorem rd_tyL {A : Prop} (h : SqL K H a xs) (q : A) : tyV K "list" (.ref a) H ∧ A := ⟨.inl ⟨rfl, xs, h⟩, q⟩
theorem rd_append (h : H a = some (.lst xs)) (hz : xs.length < 16777216) (q : Q .non (upd H a (.lst (xs ++ [y])))) : rAppend (.ref a) [y] H Q := ⟨a, xs, y, rfl, rfl, h, by rw [sizeLine_eq]; exact hz, q⟩
/-- a text of what x is -/
theorem rd_repr {d : PyData} (h : Dp K H x d) (h1 : d.showable = true) (h2 : d.hasDict = false) (h3 : d.depth ≤ 100) (h4 : d.shown.length ≤ sizeLine) (q : Q (.str d.shown) H) : rRepr K [x] H Q := ⟨x, d, rfl, h, h1, h2, h3, h4, q⟩
end
/-! ### exceptions as values -/
/-- at a: an error of the class at C with this value -/
def ExAt (H : Hp) (a C : Addr) (v : V) : Prop := ∃ d, H a = some (exo a C (some d)) ∧ H d = some (exd d [(("value" : Str), v)])
theorem ExAt.mono {H H' : Hp} {a C : Addr} {v : V} (h : ExAt H a C v) (s : Same H H') : ExAt H' a C v := by
  obtain ⟨d, h1, h2⟩ := h
  exact ⟨d, s _ _ h1, s _ _ h2⟩
/-- the error class x at C -/
structure ExT (K : PySem.W.Frag) (mg : Str → Option Value) (x : Str) (C fI : Addr) : Prop where
  c : OexC K C
  i : PySem.W.findIn K (.ref C) "__init__" = some (some (.ref fI))
  t : PySem.W.typeIn K (.ref fI) = some (.type "function")
  g : mg x = some (.ref C)
  v : ExV K C
  n : PySem.W.findIn K (.ref C) "value" = some none
theorem ExAt.put {H : Hp} {a C p : Addr} {v : V} {xs : List V} {o : HO} (h : ExAt H a C v) (hp : H p = some (.lst xs)) : ExAt (upd H p o) a C v := by
  obtain ⟨d, h1, h2⟩ := h
  have n1 : a ≠ p := ne_of h1 hp fun z => by
    have z' : HO.ext _ = HO.lst xs := z
    cases z'
  have n2 : d ≠ p := ne_of h2 hp fun z => by
    have z' : HO.ext _ = HO.lst xs := z
    cases z'
  exact ⟨d, lk_ne n1 h1, lk_ne n2 h2⟩
/-- self.value = value -/
def spInit (K : PySem.W.Frag) : Sp := fun vs H Q _ => ∃ (a C : Addr) (v : V), vs = [.ref a, v] ∧ H a = some (exo a C none) ∧ OexC K C ∧ PySem.W.findIn K (.ref C) "value" = some none ∧
  ∀ d, H d = none → d ≠ a → Q .non (upd (upd H d (exd d [(("value" : Str), v)])) a (exo a C (some d)))
theorem same_lk {H H' : Hp} {a : Addr} {u : HO} (s : Same H H') (h : H a = some u) : H' a = some u := s _ _ h
theorem same_new {H H' : Hp} {p : Addr} {o : HO} (s : Same H H') (h : H' p = none) : Same H (upd H' p o) := fun b u e => lk_new (s b u e) h
theorem same_put {H H' : Hp} {p : Addr} {o : HO} (s : Same H H') (h : H p = none) : Same H (upd H' p o) := fun b u e => by
  rw [upd_ne (ne_of_none e h)]
  exact s b u e
theorem Same.new {H : Hp} {p : Addr} {o : HO} (h : H p = none) : Same H (upd H p o) := fun b u e => lk_new e h
section
variable {K : PySem.W.Frag} {mg : Str → Option Value} {σ : L2.St} {H : Hp} {v : V} {x : Str} {C fI : Addr}
theorem rd_mk {Q : Addr → Hp → Prop} (T : ExT K mg x C fI) (q : ∀ a H', ExAt H' a C v → Same H H' → H a = none → Q a H') :
    ∃ y, [v] = [y] ∧ ∀ a, H a = none → spInit K [.ref a, y] (upd H a (exo a C none)) (fun u H2 => u = .non ∧ Q a H2) (fun _ _ _ => False) := by
  refine ⟨v, rfl, fun a ha => ⟨a, C, v, rfl, upd_same, T.c, T.n, fun d hd ne => ⟨rfl, q a _ ⟨d, upd_same, ?_⟩ (fun b o e => ?_) ha⟩⟩⟩
  · rw [upd_ne ne, upd_same]
  · have h1 : b ≠ a := ne_of_none e ha
    have h2 : b ≠ d := ne_of_none (lk_new e ha) hd
    rw [upd_ne h1, upd_ne h2, upd_ne h1]
    exact e
theorem rd_mkv {sp : Sp} {ta : TA} {Q : VK} (h : ta σ H fun vs H1 => ∃ y, vs = [y] ∧ ∀ a, H1 a = none → sp [.ref a, y] (upd H1 a (exo a C none)) (fun v H2 => v = .non ∧ Q (.ref a) H2) (fun _ _ _ => False)) : tMkV C sp ta σ H Q := h
theorem rd_xv {Q : VK} {te : TE} {f : Str} (h : te σ H fun x H1 => ∃ (a C dx : Addr) (fs : List (Str × V)) (v : V), x = .ref a ∧ H1 a = some (exo a C (some dx)) ∧ H1 dx = some (exd dx fs) ∧ ExV K C ∧ PySem.W.findIn K (.ref C) f = some none ∧ fs.lookup f = some v ∧ Q v H1) : tXv K f te σ H Q := h
theorem rd_value {a : Addr} {Q : V → Prop} (h : ExAt H a C v) (T : ExT K mg x C fI) (q : Q v) :
    ∃ (a' C : Addr) (dx : Addr) (fs : List (Str × V)) (v' : V), V.ref a = .ref a' ∧ H a' = some (exo a' C (some dx)) ∧ H dx = some (exd dx fs) ∧ ExV K C ∧ PySem.W.findIn K (.ref C) "value" = some none ∧ fs.lookup ("value" : Str) = some v' ∧ Q v' := by
  obtain ⟨d, h1, h2⟩ := h
  exact ⟨a, C, d, _, v, rfl, h1, h2, T.v, T.n, by simp [List.lookup], q⟩
/-- isinstance(e, c) -/
theorem rd_isV {a : Addr} {c : V} {u : Value} {b : Bool} {Q : VK} (h : ExAt H a C v) (T : ExV K C) (hc : ClsV c u) (e : PySem.W.kitOne K (.ref C) u = some b) (q : Q (.bl b) H) : rIsV K [.ref a, c] H Q := by
  obtain ⟨d, h1, h2⟩ := h
  exact ⟨a, C, d, _, c, u, b, rfl, hc, h1, h2, T, e, q⟩
theorem rd_isi {y c : V} {t u : Value} {b : Bool} {Q : VK} (hc : ClsV c u) (ty : TyX K H y t) (e : PySem.W.kitOne K t u = some b) (q : Q (.bl b) H) : rIsi K [y, c] H Q := ⟨y, c, t, u, b, rfl, hc, ty, e, q⟩
end
end Ev

set_option maxHeartbeats 2000000
/-! Caught errors of own classes with a value of their own; makings that may raise in a try; enumerate. -/
namespace Ev
open PySem PySem.Spec PyProof.Rows L2 PySem.HandSPX
/-- what the suite knows of its error -/
structure Held (K : PySem.W.Frag) (H : Hp) (cls : Value) (d : Option Addr) (C : Addr) (fs : List (Str × V)) : Prop where
  c : cls = .ref C
  d : ∃ dd, d = some dd ∧ H dd = some (.xd fs)
  v : ExV K C
theorem held_at {X : Cx} {pins : List (Addr × Obj)} {pn : List (Addr × Obj)} {σ : L2.St} {H : Hp} {s : Shared} {a C : Addr} {oe : Obj} {cls : Value} {d : Option Addr} {fs : List (Str × V)} (I : Inv (X.suite a ((a, oe) :: pn)) pins σ H s) (hz : Zc cls d oe) (hf : ∃ vs, oe.data = .fields vs)
    (h : Held X.K H cls d C fs) : ∃ od : Obj, PySem.W.InstAt s.heap a oe C (some od) ∧ ∀ (f : Str) (v : V), fs.lookup f = some v → ∃ u, PySem.W.lookIn f od = some (some u) ∧ RelV v u := by
  obtain ⟨rfl, ⟨dd, rfl, ed⟩, T⟩ := h
  obtain ⟨hat, _⟩ := I.pin (a, oe) (List.mem_append_left _ List.mem_cons_self)
  obtain ⟨vs, hv⟩ := hf
  obtain ⟨mA, hns, hrel⟩ := (show ObjOk X.prog X.w H s.heap dd (.xd fs) from I.hok dd _ ed)
  obtain ⟨od, hod, look⟩ := lookIn_ns hns
  refine ⟨od, ⟨hat, hz.1, ?_, ?_⟩, fun f v hl => ?_⟩
  · unfold PySem.W.notCls
    rw [hv] <;> rfl
  · rw [hz.2]
    exact hod
  · obtain ⟨u, hu, ru⟩ := RelO.some_of (v := v) (o := mA f) (by rw [← hl]; exact hrel f)
    exact ⟨u, by rw [look, hu], ru⟩
/-- e.f, e the error that the suite holds -/
def tXs (K : PySem.W.Frag) (a : Addr) (cls : Value) (d : Option Addr) (f : Str) (te : TE) : TE := fun σ H Q => te σ H fun x H1 => x = .ref a ∧ ∃ (C : Addr) (fs : List (Str × V)) (v : V), Held K H1 cls d C fs ∧ PySem.W.findIn K (.ref C) f = some none ∧ fs.lookup f = some v ∧ Q v H1
section
variable {X : Cx} {a : Addr} {oe : Obj} {cls : Value} {d : Option Addr} {pn : List (Addr × Obj)} {pos : Pos}
theorem pe_xs {o : Expr} {to : TE} {f : Str} (hz : Zc cls d oe) (hf : ∃ vs, oe.data = .fields vs) (he : PE (X.suite a ((a, oe) :: pn)) o to) (hb : attributeBase o f X.env (eval o X.env) = eval o X.env := by rfl) :
    PE (X.suite a ((a, oe) :: pn)) (.Attribute o f pos) (tXs X.K a cls d f to) := ⟨fun pins s σ H Q I h => by
  refine attr_of hb (thn (he.run pins s σ H _ I h) fun u s1 got => ?_)
  obtain ⟨x, H1, I1, rx, rfl, C, fs, v, hd, hno, hl, q⟩ := got
  obtain rfl : u = Value.ref a := rx
  obtain ⟨od, J, look⟩ := held_at I1 hz hf hd
  obtain ⟨u, hu, ru⟩ := look f v hl
  exact exc_get I1.kIn J hd.v.ga hd.v.gg hd.v.ex (PySem.W.findObj_own hd.v.hd hno rfl hu) (handed_of ru) ⟨v, H1, I1.tok _, ru, q⟩⟩
/-- isinstance(e, c), isinstance(e, (c1, c2, ..)) -/
def rIsS (K : PySem.W.Frag) (a : Addr) (cls : Value) (d : Option Addr) : List V → Hp → VK → Prop := fun xs H Q => ∃ (C : Addr) (fs : List (Str × V)) (c : V) (u : Value) (b : Bool), xs = [.ref a, c] ∧ ClsV c u ∧ Held K H cls d C fs ∧ PySem.W.kitOne K (.ref C) u = some b ∧ Q (.bl b) H
def rIsST (K : PySem.W.Frag) (a : Addr) (cls : Value) (d : Option Addr) : List V → Hp → VK → Prop := fun xs H Q => ∃ (C tp : Addr) (fs : List (Str × V)) (cs : List V) (us : List Value) (b : Bool), xs = [.ref a, .ref tp] ∧ H tp = some (.tup cs) ∧ Paired ClsV cs us ∧ Held K H cls d C fs ∧
  PySem.W.kitAny K (.ref C) us = some b ∧ Q (.bl b) H
theorem call_isS (hz : Zc cls d oe) (hf : ∃ vs, oe.data = .fields vs) : CallR (X.suite a ((a, oe) :: pn)) (.builtin "isinstance") (rIsS X.K a cls d) := by
  intro pins s σ H xs us Q I r h
  obtain ⟨C, fs, c, u, b, rfl, k, hd, e, q⟩ := h
  obtain ⟨u1, u2, rfl, r1, r2⟩ := vals2 r
  obtain rfl : u1 = Value.ref a := r1
  have e2 := k.eq r2
  subst e2
  obtain ⟨od, J, _⟩ := held_at I hz hf hd
  exact PySem.W.kia_one hd.v.kit I.kIn J e (fun z => nomatch z) fun tk => ⟨.bl b, H, I.tok tk, rfl, q⟩
theorem call_isST (hz : Zc cls d oe) (hf : ∃ vs, oe.data = .fields vs) : CallR (X.suite a ((a, oe) :: pn)) (.builtin "isinstance") (rIsST X.K a cls d) := by
  intro pins s σ H xs us Q I r h
  obtain ⟨C, tp, fs, cs, vs, b, rfl, etp, k, hd, e, q⟩ := h
  obtain ⟨u1, u2, rfl, r1, r2⟩ := vals2 r
  obtain rfl : u1 = Value.ref a := r1
  obtain rfl : u2 = Value.ref tp := r2
  obtain ⟨od, J, _⟩ := held_at I hz hf hd
  obtain ⟨_, its, rv, ob, ho, hc, n, hdt⟩ := (show ObjOk X.prog X.w H s.heap tp (.tup cs) from I.hok tp _ etp)
  have ei := ClsV.all k rv
  subst ei
  obtain ⟨oc, od', oda, osl⟩ := ob
  dsimp only at hc hdt
  subst hc hdt
  exact PySem.W.kia_tup hd.v.kit I.kIn J ho e (fun z => nomatch z) fun tk => ⟨.bl b, H, I.tok tk, rfl, q⟩
/-- what a making in a try may let out: the frame's slots keep their number -/
def WL (W : WX) (n : Nat) : XK := fun cls d H => ∀ σ : L2.St, σ.length = n → W cls d σ H
theorem passL {W : WX} {n : Nat} (tk : Takes X W) (e : X.N.length = n) : Passes (L2.CX X.prog X.w) X (WL W n) := fun _ σ _ _ er s' I c => tk er s' (XE.of_call I (fun _ _ _ h => h σ (I.len.trans e)) c)
end
/-! enumerate -/
section
variable {K : PySem.W.Frag} {σ : L2.St} {H : Hp} {D : Ends} {a : Addr} {xs : List V}
theorem rd_forD {ta : TA} {g : TG} {tb : TS} (h : ta σ H fun vs H1 => ∃ b ys, vs = [.ref b] ∧ SqL K H1 b ys ∧ tFor (fun _ H' R => R (Ite K b) H') g tb D σ H1) : tFor (iEnum K ta) g tb D σ H := h
theorem rd_enumL {A : Addr → Prop} (h : SqL K H a xs) (q : A a) : ∃ b ys, [V.ref a] = [.ref b] ∧ SqL K H b ys ∧ A b := ⟨a, xs, rfl, h, q⟩
theorem rd_forE {g : TG} {tb : TS} (Pv : Nat → L2.St → Hp → Prop) (h0 : Pv 0 σ H) (hl : ∀ i σ H, i ≤ xs.length → Pv i σ H → SqL K H a xs)
    (hs : ∀ (i : Nat) x σ H p, xs[i]? = some x → Pv i σ H → H p = none → g (.ref p) σ (upd H p (.tup [.int i, x])) fun σ2 H2 => tb { D with nx := Pv (i + 1), ct := Pv (i + 1), bk := D.nx } σ2 H2)
    (hd : ∀ σ H, Pv xs.length σ H → D.nx σ H) : tFor (fun _ H' R => R (Ite K a) H') g tb D σ H := by
  refine ⟨fun j left σ' H' => left = xs.length - j ∧ j ≤ xs.length ∧ Pv j σ' H', ⟨xs.length, by omega, by omega, h0⟩, fun j left σ' H' st => ?_⟩
  obtain ⟨rfl, hj, pj⟩ := st
  have hq := hl j σ' H' hj pj
  by_cases lt : j < xs.length
  · refine .inr ⟨⟨xs, xs[j], hq, List.getElem?_eq_getElem lt⟩, Pv (j + 1), fun σ2 H2 p2 => ⟨xs.length - (j + 1), by omega, rfl, by omega, p2⟩, fun v H2 y => ?_⟩
    obtain ⟨p, x, rfl, hp, rfl, hx⟩ := y
    exact hs j x σ' H' p (hx xs hq) pj hp
  · obtain rfl : j = xs.length := by omega
    exact .inl ⟨⟨xs, hq, Nat.le_refl _⟩, hd σ' H' pj⟩
end
end Ev

/-! A text as often as 0 or 1. -/
namespace Ev
open PySem PySem.Spec PyProof.Rows L2
def rep01 (i : Str) (k : Bool) : Str := if k = true then i else Str.empty
theorem op_rep01 {X : Cx} : OpR X (binaryOp .Mult) (fun x y H Q => ∃ (i : Str) (k : Bool), x = .str i ∧ y = .int (if k = true then 1 else 0) ∧ Q (.str (rep01 i k)) H) := by
  intro pins s σ H x y v u Q I rx ry h
  obtain ⟨i, k, rfl, rfl, q⟩ := h
  obtain ⟨t, rfl⟩ := rx
  obtain ⟨t', rfl⟩ := ry
  cases k with
  | true => exact P.mul_str (n := 1) (by decide) (fun _ z => absurd z (by simp)) (fun _ z => absurd z (by simp)) (by rw [if_neg (by decide), if_pos (by simp)]; exact ⟨.str i, H, I, ⟨_, rfl⟩, q⟩)
  | false => exact P.mul_str (n := 0) (by decide) (fun z => absurd (by decide) z) (fun z => absurd (by decide) z) (by rw [if_pos (by decide)]; exact ⟨by decide, .str Str.empty, H, I.tok _, ⟨_, rfl⟩, q⟩)
end Ev

/-! How long texts of lists, tuples and whole numbers are. -/
namespace Ev
open PySem PySem.Spec PyProof.Rows L2
theorem len_listText (ts : List Str) : (listText ts).length ≤ piled ts + 2 := by
  cases ts with
  | nil => exact (by decide : (listText []).length ≤ 2)
  | cons t r =>
    have e : listText (t :: r) = textFrom 1 (("[" : Str) ++ t) r ++ ("]" : Str) := rfl
    rw [e, Str.length_append, textFrom_length_pos r 1 _ (by decide), Str.length_append, piled_cons]
    have e1 : ("[" : Str).length = 1 := by decide
    have e2 : ("]" : Str).length = 1 := by decide
    omega
theorem len_tupleText (t u : Str) (r : List Str) : (PySem.tupleText (t :: u :: r)).length ≤ piled (t :: u :: r) := by
  have e : PySem.tupleText (t :: u :: r) = ("(" : Str) ++ Str.join ", " (t :: u :: r) ++ (")" : Str) := by
    unfold PySem.tupleText
    rw [if_neg (by simp)]
  rw [e, Str.length_append, Str.length_append]
  have e1 : ("(" : Str).length = 1 := by decide
  have e2 : (")" : Str).length = 1 := by decide
  have := join_length_add (t :: u :: r) (by simp)
  omega
theorem shown_int {i : Int} (h : i.natAbs < 10 ^ 9) : (PyData.int i).shown.length ≤ 10 := by
  have e : (PyData.int i).shown = Str.ofString (toString i) := by simp only [PyData.shown]
  rw [e, PySem.ofString_length]
  exact int_text_length_le10 (by decide) h
theorem show_int {i : Int} (h : i.natAbs < 10 ^ 9) : (PyData.int i).showable = true := by
  have hb : i.natAbs.log2 < 1920 := by
    have e : (10 : Nat) ^ 9 < 2 ^ 1900 := by decide +kernel
    exact Nat.lt_of_lt_of_le (PySem.Flt.log2_lt_of (by decide) (Nat.lt_trans h e)) (by decide)
  simpa [PyData.showable] using hb

/-- what repr wants of a value, and how long its text is at most -/
structure Sh (d : PyData) (n k : Nat) : Prop where
  s : d.showable = true
  h : d.hasDict = false
  e : d.depth ≤ k
  l : d.shown.length ≤ n
theorem Sh.int {i : Int} (h : i.natAbs < 10 ^ 9) : Sh (.int i) 10 0 := ⟨show_int h, by simp only [PyData.hasDict], by simp [PyData.depth], shown_int h⟩
theorem Sh.str1 (x : Str) (h : (PyData.str x).shown.length ≤ 10) : Sh (.str x) 10 0 := ⟨by simp only [PyData.showable], by simp only [PyData.hasDict], by simp [PyData.depth], h⟩
theorem Sh.mono {d : PyData} {n k m j : Nat} (h : Sh d n k) (a : n ≤ m) (b : k ≤ j) : Sh d m j := ⟨h.s, h.h, Nat.le_trans h.e b, Nat.le_trans h.l a⟩
theorem sh_all {n k : Nat} : ∀ ds : List PyData, (∀ d ∈ ds, Sh d n k) → PyData.showableAll ds = true ∧ PyData.hasDictAll ds = false ∧ PyData.depthAll ds ≤ k ∧ piled (PyData.shownAll ds) ≤ (n + 2) * ds.length
  | [], _ => ⟨by simp only [PyData.showableAll], by simp only [PyData.hasDictAll], by simp [PyData.depthAll], by simp only [PyData.shownAll]; exact Nat.zero_le _⟩
  | d :: ds, h => by
    obtain ⟨a, b, c, e⟩ := sh_all ds fun x hx => h x (List.mem_cons_of_mem _ hx)
    have q := h d List.mem_cons_self
    refine ⟨?_, ?_, ?_, ?_⟩
    · simp only [PyData.showableAll, q.s, a, Bool.and_self]
    · simp only [PyData.hasDictAll, q.h, b, Bool.or_self]
    · simp only [PyData.depthAll]
      have := q.e
      omega
    · simp only [PyData.shownAll]
      rw [piled_cons, List.length_cons, Nat.mul_succ]
      have := q.l
      omega
theorem Sh.list {n k : Nat} {ds : List PyData} (h : ∀ d ∈ ds, Sh d n k) : Sh (.list ds) ((n + 2) * ds.length + 2) (k + 1) := by
  obtain ⟨a, b, c, e⟩ := sh_all ds h
  refine ⟨by simp only [PyData.showable]; exact a, by simp only [PyData.hasDict]; exact b, by simp only [PyData.depth]; omega, ?_⟩
  simp only [PyData.shown]
  exact Nat.le_trans (len_listText _) (by omega)
theorem Sh.tup {n k : Nat} {x y : PyData} {ds : List PyData} (h : ∀ d ∈ x :: y :: ds, Sh d n k) : Sh (.tuple (x :: y :: ds)) ((n + 2) * (ds.length + 2)) (k + 1) := by
  obtain ⟨a, b, c, e⟩ := sh_all (x :: y :: ds) h
  refine ⟨by simp only [PyData.showable]; exact a, by simp only [PyData.hasDict]; exact b, by simp only [PyData.depth]; omega, ?_⟩
  simp only [PyData.shown, PyData.shownAll] at e ⊢
  exact Nat.le_trans (len_tupleText _ _ _) e
end Ev

/-! A method of an own class, called with keywords alone. -/
namespace Ev
open PySem PySem.Spec PyProof.Rows L2
def tMethK (C : Addr) (m : Str) (n : Nat) (sp : Sp) (gV : List V → List V → List V) (E : XK) (ta : TE) (tk : TA) : TE := fun σ H Q => ta σ H fun x H1 => ∃ (a dx : Addr) (fs : List (Str × V)), x = .ref a ∧ H1 a = some (.ins C dx fs) ∧ fs.lookup m = none ∧
  tk σ H1 fun zs H2 => zs.length = n ∧ sp (gV [.ref a] zs) H2 Q E
section
variable {X : Cx} {CX : CXT} {k : Nat} {C f : Addr} {fd : FuncData} {ps ks : List Str} {sp : Sp} {E : XK} {m : Str} {apos pos : Pos} {o : Expr} {kws : List Keyword} {ta : TE} {tk : TA} {g : List Value → List Value → List Value} {gV : List V → List V → List V}
theorem pe_methKw {pl : Sem Bool} (he : PE X o ta) (c : Cls X.K C) (hm : Meth X.K C m f) (G : FnOk X.prog X.w X.K X.mg X.base CX k f fd ps sp) (hr : Room k X.A) (kb : KBn X.K fd ps 1 ks g gV) (hx : Passes CX X E) (hkw : PK X kws tk)
    (ht : eval (.Call (.Attribute o m apos) [] kws pos) X.env = (do let ov ← eval o X.env; standAt apos.atName; let (f, first) ← holding [ov] (getMethod ov m pl); callWith pos f first (backTo pos (starEach [] X.env)) (backToKw pos (keywordEach kws X.env))) := by rfl)
    (hall : (backToKw pos (keywordEach kws X.env)).all (·.1.isSome) = true := by rfl) (hks : (backToKw pos (keywordEach kws X.env)).filterMap (·.1) = ks := by rfl)
    (hpl : ((backTo pos (starEach [] X.env)).any (·.1) || (backToKw pos (keywordEach kws X.env)).any (·.1.isNone)) = false := by rfl) :
    PE X (.Call (.Attribute o m apos) [] kws pos) (tMethK C m ks.length sp gV E ta tk) := ⟨fun pins s σ H Q I h => by
  refine PySem.W.methodCall_KW (pl := pl) (thn (he.run pins s σ H _ I h) fun u s1 got => ?_) ht
  obtain ⟨x, H1, I1, rx, a, dx, fs, rfl, ea, hl, q⟩ := got
  obtain rfl : u = Value.ref a := rx
  refine getmeth_ok I1 ea c hm hl ?_
  refine PySem.W.callWith_KW0 (first := [.ref a]) (h₀ := X.base) I.ok.mod.kin hm.kp hall ?_ hpl
  refine thn (hkw.run pos pins s1 σ H1 _ I1 q) fun ws s2 got2 => ?_
  obtain ⟨zs, H2, I2, rz, lz, hsp⟩ := got2
  refine ⟨I2.kIn, ?_⟩
  rw [hks]
  have r1 : Vals [V.ref a] [Value.ref a] := .cons rfl .nil
  show wpAny _ _ (call (.ref f) [.ref a] (ks.zip ws)) _ _ _
  refine wpAny_call (codeAny_mono (G.run X.A X.stack s2 H2 ⟨[.ref a], ks.zip ws⟩ (g [.ref a] ws) (gV [.ref a] zs) Q E hr I2.env0 (kb.to s2 [.ref a] ws I2.kIn rfl (rz.length.symm.trans lz)) (kb.rel r1 rz) hsp) fun r s' hq => ?_)
  rcases r with er | (_ | _ | _ | w)
  · exact hx pins σ H2 s2 er s' I2 hq
  · exact False.elim hq
  · exact False.elim hq
  · exact False.elim hq
  · exact I2.after hq⟩
end
end Ev

namespace Ev
open PySem PySem.Spec PyProof.Rows L2
local macro_rules | `(tactic| wtm_at "ev_ne") => `(tactic| first | assumption | exact Ne.symm (by assumption))
local macro_rules | `(tactic| wtm_at "ev_lk") => `(tactic| first | assumption | exact upd_same | (refine lk_new' (by assumption) ?_; wtm_at "ev_lk") | (refine lk_ne (by wtm_at "ev_ne") ?_; wtm_at "ev_lk") | (refine same_lk (by assumption) ?_; wtm_at "ev_lk"))
local macro_rules | `(tactic| wtm_at "ev_sm") => `(tactic| first | assumption | exact Same.refl _ | (refine same_new ?_ (by assumption); wtm_at "ev_sm") | (refine Same.trans ?_ (by assumption); wtm_at "ev_sm"))
local macro_rules | `(tactic| wtm_at "ev_no") => `(tactic| first | assumption | exact no_back (by assumption) | (refine no_new ?_ (by wtm_at "ev_ne"); wtm_at "ev_no"))
local macro_rules | `(tactic| wtm_at "ev_sq") => `(tactic| first | assumption | exact SqL.of (by wtm_at "ev_lk") | exact SqT.of (by wtm_at "ev_lk"))
local macro_rules | `(tactic| wtm_at "ev_step") => `(tactic| with_reducible first
  | refine rd_seq ?_ | refine rd_next ?_ | refine rd_ret ?_ | refine rd_retN ?_ | refine rd_if ?_ | refine rd_drop ?_ | refine rd_asg ?_ | refine rd_name ?_ | refine rd_gsub ?_ | refine rd_gnil ?_ | refine rd_gcons ?_
  | refine rd_c ?_ | refine rd_op ?_ | refine rd_un ?_ | refine rd_rI0 ?_ | refine rd_rU ?_ | refine rd_tup ?_ | refine rd_lst ?_ | refine rd_nil ?_ | refine rd_cons ?_ | refine rd_cb ?_ | refine rd_call ?_ | refine rd_sl ?_ | refine rd_no ?_ | refine rd_part ?_
  | refine rd_test ?_ | refine rd_tB ?_ | refine rd_not ?_ | refine rd_and ?_ | refine rd_or ?_ | refine rd_notV ?_ | refine rd_andV ?_ | refine rd_orV ?_ | refine rd_ifE ?_ | refine rd_bl ?_ | refine rd_ex ?_
  | refine rd_rng1 ?_ | refine rd_overL ?_ | refine rd_overT ?_ | refine rd_forA ?_ | refine rd_forB ?_ | refine rd_forC ?_ | refine rd_lcA ?_ | refine rd_lcB ?_ | refine rd_lcC ?_ | refine rd_bm ?_ | refine rd_mkv ?_ | refine rd_xv ?_
  | refine rd_T ?_ | refine rd_F ?_ | refine rd_True ?_ | refine rd_False ?_ | refine rd_int ?_ | refine rd_intB ?_ | refine rd_one ?_ | refine rd_two ?_)
local macro_rules | `(tactic| wtm_at "ev_cond") => `(tactic| first | assumption | exact (show (0 : Int) < _ by decide) | exact (show (0 : Int) < _ by omega) | exact Or.inl ⟨by decide, by decide⟩ | exact Or.inr ⟨by decide, by decide⟩ | exact pow_cond (by decide) (by decide) (by first | decide | omega) (by first | decide | omega) | exact wide_div (b := 2000) (by first | assumption | decide | omega) (by first | decide | omega) (by decide) (by decide))
local macro_rules | `(tactic| wtm_at "ev_side") => `(tactic| first
  | ((with_reducible apply rd_var); exact rfl)
  | ((with_reducible apply rd_ixL); (wtm_at "ev_sq"); exact rfl)
  | ((with_reducible apply rd_ixT); (wtm_at "ev_sq"); exact rfl)
  | ((with_reducible apply rd_eq); exact rfl)
  | ((with_reducible apply rd_ne); exact rfl)
  | ((with_reducible apply rd_setL); (wtm_at "ev_lk"); exact rfl)
  | ((with_reducible apply rd_gtup); (wtm_at "ev_sq"); exact rfl)
  | ((with_reducible apply rd_len); (wtm_at "ev_sq"))
  | ((with_reducible apply rd_lenT); (wtm_at "ev_sq"))
  | ((with_reducible apply rd_rg); (first | decide | omega); (first | decide | omega))
  | ((with_reducible apply rd_atL); (wtm_at "ev_sq"))
  | ((with_reducible apply rd_atT); (wtm_at "ev_sq"))
  | ((with_reducible apply rd_tyL); (wtm_at "ev_sq"))
  | ((with_reducible apply rd_cat); (wtm_at "ev_lk"); (wtm_at "ev_lk"); exact Nat.le_of_ble_eq_true rfl)
  | ((with_reducible apply rd_size); exact Nat.le_of_ble_eq_true rfl)
  | ((with_reducible apply rd_rI); wtm_at "ev_cond"))
local macro_rules | `(tactic| wtm_at "ev_rd") => `(tactic| repeat (first | wtm_at "ev_step" | wtm_at "ev_side"))
local macro_rules | `(tactic| wtm_at "ev_go") => `(tactic| ((try simp only [L2.start, List.map_cons, List.map_nil, List.length_cons, List.length_nil, Nat.reduceAdd, Nat.reduceSub, List.replicate_succ, List.replicate_zero, List.cons_append, List.nil_append]); wtm_at "ev_rd"; (try simp only [List.set_cons_zero, List.set_cons_succ, upd_upd])))
def top (i : Nat) : Stmt := PySem.Challenge.pw_everyspan_k04_books_turned_and_scaled.main.body.getD i (.Pass ⟨0, 0, 0, 0⟩)
abbrev s_is_rule : Stmt := top 2
theorem sc_is_rule : FnScope ["rule", "width", "least", "most"] ["rule"] (defScope s_is_rule) := ⟨rfl, rfl, rfl, by decide +kernel, rfl, by decide +kernel, by decide +kernel⟩
abbrev s_lowest_most : Stmt := top 3
theorem sc_lowest_most : FnScope ["bounds", "best_width", "_", "best_most", "width", "most"] ["bounds"] (defScope s_lowest_most) := ⟨rfl, rfl, rfl, by decide +kernel, rfl, by decide +kernel, by decide +kernel⟩
abbrev s_first_conflict : Stmt := top 4
theorem sc_first_conflict : FnScope ["bounds", "lowest", "lowest_width", "i", "width", "least", "_"] ["bounds"] (defScope s_first_conflict) := ⟨rfl, rfl, rfl, by decide +kernel, rfl, by decide +kernel, by decide +kernel⟩
abbrev s_first_exceeded : Stmt := top 5
theorem sc_first_exceeded : FnScope ["bounds", "width", "least", "j", "other_width", "_", "most"] ["bounds", "width", "least"] (defScope s_first_exceeded) := ⟨rfl, rfl, rfl, by decide +kernel, rfl, by decide +kernel, by decide +kernel⟩
abbrev s_SpanError_init : Stmt := inClass (top 7) 0
theorem sc_SpanError_init : FnScope ["self", "value"] ["self", "value"] (defScope s_SpanError_init) := ⟨rfl, rfl, rfl, by decide +kernel, rfl, by decide +kernel, by decide +kernel⟩
abbrev s_Book_init : Stmt := inClass (top 14) 0
theorem sc_Book_init : FnScope ["self", "low", "high", "rules", "number", "rule"] ["self", "low", "high", "rules"] (defScope s_Book_init) := ⟨rfl, rfl, rfl, by decide +kernel, rfl, by decide +kernel, by decide +kernel⟩
abbrev s_Book_low : Stmt := inClass (top 14) 1
theorem sc_Book_low : FnScope ["self"] ["self"] (defScope s_Book_low) := ⟨rfl, rfl, rfl, by decide +kernel, rfl, by decide +kernel, by decide +kernel⟩
abbrev s_Book_high : Stmt := inClass (top 14) 2
theorem sc_Book_high : FnScope ["self"] ["self"] (defScope s_Book_high) := ⟨rfl, rfl, rfl, by decide +kernel, rfl, by decide +kernel, by decide +kernel⟩
abbrev s_Book_rules : Stmt := inClass (top 14) 3
theorem sc_Book_rules : FnScope ["self"] ["self"] (defScope s_Book_rules) := ⟨rfl, rfl, rfl, by decide +kernel, rfl, by decide +kernel, by decide +kernel⟩
abbrev s_Book_eq : Stmt := inClass (top 14) 4
theorem sc_Book_eq : FnScope ["self", "other"] ["self", "other"] (defScope s_Book_eq) := ⟨rfl, rfl, rfl, by decide +kernel, rfl, by decide +kernel, by decide +kernel⟩
abbrev s_Book_bounds : Stmt := inClass (top 14) 5
theorem sc_Book_bounds : FnScope ["self"] ["self"] (defScope s_Book_bounds) := ⟨rfl, rfl, rfl, by decide +kernel, rfl, by decide +kernel, by decide +kernel⟩
abbrev s_Book_turned : Stmt := inClass (top 14) 6
theorem sc_Book_turned : FnScope ["self", "width", "least", "most"] ["self"] (defScope s_Book_turned) := ⟨rfl, rfl, rfl, by decide +kernel, rfl, by decide +kernel, by decide +kernel⟩
abbrev s_Book_scaled : Stmt := inClass (top 14) 7
theorem sc_Book_scaled : FnScope ["self", "factor", "shift", "rules", "width", "least", "most"] ["self", "factor", "shift"] (defScope s_Book_scaled) := ⟨rfl, rfl, rfl, by decide +kernel, rfl, by decide +kernel, by decide +kernel⟩
abbrev s_pool : Stmt := top 16
theorem sc_pool : FnScope ["script", "spot", "cell"] ["script", "spot"] (defScope s_pool) := ⟨rfl, rfl, rfl, by decide +kernel, rfl, by decide +kernel, by decide +kernel⟩
abbrev s_draw : Stmt := top 17
theorem sc_draw : FnScope ["pool", "many", "drawn", "mixed"] ["pool", "many"] (defScope s_draw) := ⟨rfl, rfl, rfl, by decide +kernel, rfl, by decide +kernel, by decide +kernel⟩
abbrev s_kind : Stmt := top 18
theorem sc_kind : FnScope ["pool", "wide", "often", "bottom_day", "top_day", "under", "lines", "over", "turn", "size", "few", "more"] ["pool", "wide", "often"] (defScope s_kind) := ⟨rfl, rfl, rfl, by decide +kernel, rfl, by decide +kernel, by decide +kernel⟩
abbrev s_made : Stmt := top 19
theorem sc_made : FnScope ["kind"] ["kind"] (defScope s_made) := ⟨rfl, rfl, rfl, by decide +kernel, rfl, by decide +kernel, by decide +kernel⟩
abbrev s_turned : Stmt := top 20
theorem sc_turned : FnScope ["kind", "size", "few", "more"] ["kind"] (defScope s_turned) := ⟨rfl, rfl, rfl, by decide +kernel, rfl, by decide +kernel, by decide +kernel⟩
abbrev s_caught : Stmt := top 21
theorem sc_caught : FnScope ["made", "often", "more", "found", "e", "odd"] ["made", "often", "more"] (defScope s_caught) := ⟨rfl, rfl, rfl, by decide +kernel, rfl, by decide +kernel, by decide +kernel⟩
abbrev s_right : Stmt := top 22
theorem sc_right : FnScope ["pool", "kind", "made", "due", "told", "often", "more", "rules_due", "wrong", "size", "few", "many"] ["pool"] (defScope s_right) := ⟨rfl, rfl, rfl, by decide +kernel, rfl, by decide +kernel, by decide +kernel⟩
abbrev s_law : Stmt := top 23
theorem sc_law : FnScope ["script", "spot", "pool", "turn"] ["script"] (defScope s_law) := ⟨rfl, rfl, rfl, by decide +kernel, rfl, by decide +kernel, by decide +kernel⟩
/-- names of the text that the module does not shadow -/
structure Blt (mg : Str → Option Value) : Prop where
  n_int : mg "int" = none
  n_max : mg "max" = none
  n_min : mg "min" = none
  n_abs : mg "abs" = none
  n_len : mg "len" = none
  n_repr : mg "repr" = none
  n_isinstance : mg "isinstance" = none
  n_range : mg "range" = none
  n_str : mg "str" = none
  n_list : mg "list" = none
  n_enumerate : mg "enumerate" = none
  n_ValueError : mg "ValueError" = none
/-- a number of a bounded size -/
def Num (i : Int) : Prop := i.natAbs < 2 ^ 1000
theorem Num.mul {i j : Int} (a : Num i) (b : Num j) : CMulW i j := wide_mul a b (by decide) (by decide) (by decide)
/-- a rule, and a list of rules -/
def Rl (H : Hp) (v : V) : Prop := ∃ (a : Addr) (w l m : Int), v = .ref a ∧ H a = some (.tup [.int w, .int l, .int m]) ∧ Num w ∧ Num l ∧ Num m
def Rls (H : Hp) (L : List V) : Prop := ∀ x ∈ L, Rl H x
theorem Rl.mono {H H' : Hp} {v : V} (h : Rl H v) (s : Same H H') : Rl H' v := by
  obtain ⟨a, w, l, m, rfl, e, b⟩ := h
  exact ⟨a, w, l, m, rfl, s _ _ e, b⟩
theorem Rls.mono {H H' : Hp} {L : List V} (h : Rls H L) (s : Same H H') : Rls H' L := fun x hx => (h x hx).mono s
theorem sqL_same {K : PySem.W.Frag} {H H' : Hp} {a : Addr} {xs : List V} (h : SqL K H a xs) (e : Same H H') : SqL K H' a xs :=
  h.elim (fun h => .inl (h.elim (fun h => .inl (e _ _ h)) fun ⟨o, h⟩ => .inr ⟨o, e _ _ h⟩)) fun h => .inr h
theorem rd_par {i j : Nat} {ta : TA} {D : Ends} {σ : L2.St} {H : Hp} (h : ta σ H fun vs H1 => ∃ v w, vs = [v, w] ∧ D.nx ((σ.set i (some v)).set j (some w)) H1) : tPar i j ta D σ H := h
theorem rd_par2 {v w : V} {A : V → V → Prop} (q : A v w) : ∃ x y, [v, w] = [x, y] ∧ A x y := ⟨v, w, rfl, q⟩
local macro_rules | `(tactic| wtm_at "ev_step") => `(tactic| with_reducible first | refine rd_par ?_ | refine rd_par2 ?_ | refine rd_forD ?_)
local macro_rules | `(tactic| wtm_at "ev_side") => `(tactic| ((with_reducible apply rd_enumL); (wtm_at "ev_sq")))
local macro_rules | `(tactic| wtm_at "ev_cond") => `(tactic| exact Num.mul (by assumption) (by assumption))
section
variable {P : Program} {w : World} {K : PySem.W.Frag} {mg : Str → Option Value} {base : Heap}
end
def PoolL (L : List V) (n : Int) : Prop := ∃ z m c : Int, L = [.int z, .int m, .int c] ∧ 0 ≤ m ∧ m < 4611686018427387904 ∧ 0 ≤ c ∧ c ≤ n
theorem PoolL.le {L : List V} {n m : Int} (h : PoolL L n) (e : n ≤ m) : PoolL L m := by
  obtain ⟨z, a, c, rfl, h1, h2, h3, h4⟩ := h
  exact ⟨z, a, c, rfl, h1, h2, h3, Int.le_trans h4 e⟩
def spDraw : Sp := fun vs H Q _ => ∃ (p : Addr) (L : List V) (n m : Int), vs = [.ref p, .int m] ∧ H p = some (.lst L) ∧ PoolL L n ∧ n ≤ 1000000000 ∧ 0 < m ∧ m < 2 ^ 2000 ∧ ∀ (d : Int) (L' : List V), 0 ≤ d → d < m → PoolL L' (n + 1) → Q (.int d) (upd H p (.lst L'))
theorem rd_draw {H : Hp} {Q : VK} {E : XK} {p : Addr} {L : List V} {n m : Int} (hp : H p = some (.lst L)) (hL : PoolL L n) (hn : n ≤ 1000000000) (h0 : 0 < m) (hm : m < 2 ^ 2000)
    (q : ∀ (d : Int) (L' : List V), 0 ≤ d → d < m → PoolL L' (n + 1) → Q (.int d) (upd H p (.lst L'))) : spDraw ([.ref p, .int m] ++ []) H Q E := ⟨p, L, n, m, rfl, hp, hL, hn, h0, hm, q⟩
section
variable {P : Program} {w : World} {K : PySem.W.Frag} {mg : Str → Option Value} {base : Heap} {fI c0 c1 c2 c3 c4 c5 c6 c7 c8 c9 c10 c11 : Addr}
set_option maxHeartbeats 1000000 in
theorem ok_draw {f : Addr} {fd : FuncData} (F : Fun K "_law_draw" "_law_draw" s_draw f fd) (T : Blt mg) : FnOk P w K mg base CX0 1 f fd ["pool", "many"] spDraw := by
  refine F.ok sc_draw (fun vs H Q E h => ?_) (fun cdv A outer s H vs Q E hr h => ?_)
  · obtain ⟨p, L, n, m, rfl, _⟩ := h
    rfl
  · obtain ⟨p, L, n, m, rfl, hp, ⟨z, y, c, rfl, hy0, hy1, hc0, hc1⟩, hn, hm, hm2, k⟩ := h
    refine ⟨_, (pss_cons (ps_if (pt_cmpR op_gt (pe_ix ix_list (pv 0) pe_int (fun _ _ => rfl)) pe_int (nomark _)) 
        (pss_cons (ps_set (i := 2) sc_draw.nd rfl (Or.inl rfl) (pe_op op_mod (pe_callTy call_int1 (by rfl) T.n_int boot_int (pa_cons (pe_ix ix_list (pv 0) pe_int (fun _ _ => rfl)) pa_nil)) (pv 1)))
        (pss_cons (ps_asg (pe_op op_fdivW (pe_ix ix_list (pv 0) pe_int (fun _ _ => rfl)) (pv 1)) (pg_sub (pv 0) pe_int set_list))
        (pss_one (ps_ret (pv 2))))) pss_nil)
      (pss_cons (ps_asg (pe_op op_add (pe_ix ix_list (pv 0) pe_int (fun _ _ => rfl)) pe_int) (pg_sub (pv 0) pe_int set_list))
      (pss_cons (ps_set (i := 3) sc_draw.nd rfl (Or.inl rfl) (pe_op op_mod (pe_callTy call_int1 (by rfl) T.n_int boot_int (pa_cons (pe_op op_powW (pe_op op_add (pe_ix ix_list (pv 0) pe_int (fun _ _ => rfl)) (pe_op op_mul pe_int (pe_ix ix_list (pv 0) pe_int (fun _ _ => rfl)))) pe_int) pa_nil)) pe_int))
      (pss_cons (ps_set (i := 3) sc_draw.nd rfl (Or.inl rfl) (pe_op op_mod (pe_callTy call_int1 (by rfl) T.n_int boot_int (pa_cons (pe_op op_powW (pe_op op_add (pv 3) (pe_op op_mul pe_int (pe_ix ix_list (pv 0) pe_int (fun _ _ => rfl)))) pe_int) pa_nil)) pe_int))
      (pss_one (ps_ret (pe_op op_mod (pe_callTy call_int1 (by rfl) T.n_int boot_int (pa_cons (pe_op op_fdivW (pv 3) pe_int) pa_nil)) (pv 1)))))))), ?_⟩
    wtm_at "ev_go"
    refine rd_ite (fun hz => ?_) (fun hz => ?_)
    · wtm_at "ev_go"
      exact k _ _ (Int.emod_nonneg _ (by omega)) (Int.emod_lt_of_pos _ hm) ⟨_, _, _, rfl, hy0, hy1, hc0, by omega⟩
    · wtm_at "ev_go"
      exact k _ _ (Int.emod_nonneg _ (by omega)) (Int.emod_lt_of_pos _ hm) ⟨_, _, _, rfl, hy0, hy1, by omega, by omega⟩
def spPool (K : PySem.W.Frag) : Sp := fun vs H Q _ => ∃ (a : Addr) (ns : List Int) (i : Int), vs = [.ref a, .int i] ∧ SqL K H a (ns.map V.int) ∧ 0 ≤ i ∧ i ≤ 100 ∧ ∀ (p : Addr) (L : List V), H p = none → PoolL L 0 → Q (.ref p) (upd H p (.lst L))
set_option maxHeartbeats 1000000 in
theorem ok_pool {f : Addr} {fd : FuncData} (F : Fun K "_law_pool" "_law_pool" s_pool f fd) (T : Blt mg) : FnOk P w K mg base CX0 1 f fd ["script", "spot"] (spPool K) := by
  refine F.ok sc_pool (fun vs H Q E h => ?_) (fun cdv A outer s H vs Q E hr h => ?_)
  · obtain ⟨a, ns, i, rfl, _⟩ := h
    rfl
  · obtain ⟨a, ns, i, rfl, hS, hi0, hi1, k⟩ := h
    have fin : ∀ (x c : Int) (p : Addr), H p = none → Q (.ref p) (upd H p (.lst [.int x, .int (c % 2305843009213693951 + 7368787 * (i + 1)), .int 0])) := fun x c p hp =>
      k p _ hp ⟨_, _, _, rfl, by have := Int.emod_nonneg c (by decide : (2305843009213693951 : Int) ≠ 0); omega, by have := Int.emod_lt_of_pos c (by decide : (0 : Int) < 2305843009213693951); omega, by decide, by decide⟩
    refine ⟨_, (pss_cons (ps_set (i := 2) sc_pool.nd rfl (Or.inl rfl) pe_int)
      (pss_cons (ps_if (pt_cmpR op_lt (pv 1) (pe_callB call_len_seq (by rfl) T.n_len PySem.boot_len (pa_cons (pv 0) pa_nil)) (nomark _)) 
        (pss_one (ps_set (i := 2) sc_pool.nd rfl (Or.inl rfl) (pe_ix ix_list (pv 0) (pv 1) (fun _ _ => rfl)))) pss_nil)
      (pss_one (ps_ret (pe_lst (pa_cons (pe_callB (call_max2 rfl) (by rfl) T.n_max boot_max (pa_cons pe_int (pa_cons (pe_op op_sub (pe_callB call_abs (by rfl) T.n_abs boot_abs (pa_cons (pv 2) pa_nil)) (pe_op op_powW pe_int pe_int)) pa_nil))) (pa_cons (pe_op op_add (pe_op op_mod (pe_callTy call_int1 (by rfl) T.n_int boot_int (pa_cons (pv 2) pa_nil)) pe_int) (pe_op op_mul pe_int (pe_op op_add (pv 1) pe_int))) (pa_cons pe_int pa_nil)))))))), ?_⟩
    wtm_at "ev_go"
    rw [List.length_map]
    refine rd_ite (fun hl => ?_) (fun hl => ?_)
    · obtain ⟨z, hz⟩ := at_int hi0 hl
      wtm_at "ev_go"
      refine rd_ixL hS hz ?_
      wtm_at "ev_go"
      exact fun p hp => fin _ _ p hp
    · wtm_at "ev_go"
      exact fun p hp => fin _ _ p hp
end
def Fr (p : Addr) (H H' : Hp) : Prop := ∀ b o, H b = some o → b ≠ p → H' b = some o
theorem Fr.trans {p : Addr} {H H1 H2 : Hp} (h : Fr p H H1) (g : Fr p H1 H2) : Fr p H H2 := fun b o z n => g b o (h b o z n) n
theorem Fr.same {p : Addr} {H H1 H2 : Hp} (h : Fr p H H1) (g : Same H1 H2) : Fr p H H2 := fun b o z n => g b o (h b o z n)
theorem Fr.put {p : Addr} {H H1 : Hp} {x : HO} (h : Fr p H H1) : Fr p H (upd H1 p x) := fun b o z n => lk_ne n (h b o z n)
theorem Fr.of {p : Addr} {H H1 : Hp} (h : Same H H1) : Fr p H H1 := fun b o z _ => h b o z
/-- a list of rules with these numbers -/
def RlR (H : Hp) (L : List V) (rs : List (Int × Int × Int)) : Prop := L.length = rs.length ∧ ∀ (i : Nat) (v : V), L[i]? = some v → ∃ (a : Addr) (r : Int × Int × Int), v = .ref a ∧ rs[i]? = some r ∧ H a = some (.tup [.int r.1, .int r.2.1, .int r.2.2]) ∧ Num r.1 ∧ Num r.2.1 ∧ Num r.2.2
theorem RlR.mono {H H' : Hp} {L : List V} {rs : List (Int × Int × Int)} (h : RlR H L rs) (s : Same H H') : RlR H' L rs := ⟨h.1, fun i v e => by obtain ⟨a, r, h1, h2, h3, h4⟩ := h.2 i v e; exact ⟨a, r, h1, h2, s _ _ h3, h4⟩⟩
theorem RlR.rls {H : Hp} {L : List V} {rs : List (Int × Int × Int)} (h : RlR H L rs) : Rls H L := fun x hx => by
  obtain ⟨i, hi⟩ := List.getElem?_of_mem hx
  obtain ⟨a, r, h1, h2, h3, h4, h5, h6⟩ := h.2 i x hi
  exact ⟨a, r.1, r.2.1, r.2.2, h1, h3, h4, h5, h6⟩
def okR (r : Int × Int × Int) : Bool := decide (1 ≤ r.1) && decide (r.2.1 ≤ r.2.2)
theorem at_intM {ns : List Int} {i : Int} (h0 : 0 ≤ i) (h : i < (ns.length : Int)) : ∃ z, z ∈ ns ∧ atI (ns.map V.int) i = some (.int z) := by
  obtain ⟨k, rfl⟩ : ∃ k : Nat, i = (k : Int) := ⟨i.toNat, by omega⟩
  have hk : k < ns.length := by omega
  exact ⟨ns[k], List.getElem_mem hk, atI_nat (by rw [List.getElem?_map, List.getElem?_eq_getElem hk]; rfl)⟩
def lineD (r : Int × Int × Int) : PyData := .tuple [.int r.1, .int r.2.1, .int r.2.2]
theorem RlR.all {K : PySem.W.Frag} {H : Hp} : ∀ {L : List V} {rs : List (Int × Int × Int)}, RlR H L rs → DpAll K H L (rs.map lineD)
  | [], [], _ => .nil
  | [], _ :: _, h => by cases h.1
  | _ :: _, [], h => by cases h.1
  | v :: L, r :: rs, h => by
    obtain ⟨a, r', rfl, e, ha, _⟩ := h.2 0 v rfl
    cases e
    refine .cons (.tup (SqT.of ha) (.cons (.int _) (.cons (.int _) (.cons (.int _) .nil)))) (RlR.all ⟨by have := h.1; simpa using this, fun i w e => ?_⟩)
    obtain ⟨b, q, h1, h2, h3⟩ := h.2 (i + 1) w e
    exact ⟨b, q, h1, h2, h3⟩
theorem RlR.put {H : Hp} {L : List V} {rs : List (Int × Int × Int)} {p : Addr} {xs : List V} {o : HO} (h : RlR H L rs) (hp : H p = some (.lst xs)) : RlR (upd H p o) L rs :=
  ⟨h.1, fun i v e => by obtain ⟨a, r, h1, h2, h3, h4⟩ := h.2 i v e; exact ⟨a, r, h1, h2, lk_ne (ne_of h3 hp (fun z => by cases z)) h3, h4⟩⟩
theorem RlR.add {H : Hp} {L : List V} {rs : List (Int × Int × Int)} {a : Addr} {w l m : Int} (h : RlR H L rs) (ha : H a = some (.tup [.int w, .int l, .int m])) (h1 : Num w) (h2 : Num l) (h3 : Num m) : RlR H (L ++ [.ref a]) (rs ++ [(w, l, m)]) := by
  refine ⟨by rw [List.length_append, List.length_append, h.1]; rfl, fun i v e => ?_⟩
  by_cases hi : i < L.length
  · rw [List.getElem?_append_left hi] at e
    obtain ⟨b, r, q1, q2, q3⟩ := h.2 i v e
    exact ⟨b, r, q1, by rw [List.getElem?_append_left (by rw [← h.1]; exact hi)]; exact q2, q3⟩
  · have hi' : i = L.length := by
      have := (List.getElem?_eq_some_iff.mp e).1
      rw [List.length_append, List.length_singleton] at this
      omega
    subst hi'
    rw [List.getElem?_append_right (Nat.le_refl _), Nat.sub_self] at e
    cases e
    exact ⟨a, (w, l, m), rfl, by rw [h.1, List.getElem?_append_right (Nat.le_refl _), Nat.sub_self]; rfl, ha, h1, h2, h3⟩
theorem num_of {i : Int} (h : i.natAbs < 10 ^ 9) : Num i := Nat.lt_trans h (by decide +kernel)
/-- small numbers all -/
def Small (rs : List (Int × Int × Int)) : Prop := ∀ r ∈ rs, (r.1.natAbs < 10 ^ 9 ∧ r.2.1.natAbs < 10 ^ 9 ∧ r.2.2.natAbs < 10 ^ 9)
theorem Small.sh {rs : List (Int × Int × Int)} (h : Small rs) (hl : rs.length ≤ 100) : Sh (.list (rs.map lineD)) 4000 2 := by
  refine (Sh.list (n := 36) (k := 1) fun d hd => ?_).mono (by rw [List.length_map]; omega) (Nat.le_refl _)
  obtain ⟨r, hr, rfl⟩ := List.mem_map.mp hd
  obtain ⟨h1, h2, h3⟩ := h r hr
  exact Sh.tup (n := 10) (k := 0) (ds := [.int r.2.2]) fun x hx => by
    simp only [List.mem_cons, List.not_mem_nil, or_false] at hx
    rcases hx with rfl | rfl | rfl
    · exact Sh.int h1
    · exact Sh.int h2
    · exact Sh.int h3
end Ev

namespace Ev
open PySem PySem.Spec PyProof.Rows L2
local macro_rules | `(tactic| wtm_at "ev_ne") => `(tactic| first | assumption | exact Ne.symm (by assumption))
local macro_rules | `(tactic| wtm_at "ev_lk") => `(tactic| first | assumption | exact upd_same | (refine lk_new' (by assumption) ?_; wtm_at "ev_lk") | (refine lk_ne (by wtm_at "ev_ne") ?_; wtm_at "ev_lk") | (refine same_lk (by assumption) ?_; wtm_at "ev_lk"))
local macro_rules | `(tactic| wtm_at "ev_sm") => `(tactic| first | assumption | exact Same.refl _ | (refine same_new ?_ (by assumption); wtm_at "ev_sm") | (refine Same.trans ?_ (by assumption); wtm_at "ev_sm"))
local macro_rules | `(tactic| wtm_at "ev_no") => `(tactic| first | assumption | exact no_back (by assumption) | (refine no_new ?_ (by wtm_at "ev_ne"); wtm_at "ev_no"))
local macro_rules | `(tactic| wtm_at "ev_sq") => `(tactic| first | assumption | exact SqL.of (by wtm_at "ev_lk") | exact SqT.of (by wtm_at "ev_lk"))
local macro_rules | `(tactic| wtm_at "ev_step") => `(tactic| with_reducible first
  | refine rd_seq ?_ | refine rd_next ?_ | refine rd_ret ?_ | refine rd_retN ?_ | refine rd_if ?_ | refine rd_drop ?_ | refine rd_asg ?_ | refine rd_name ?_ | refine rd_gsub ?_ | refine rd_gnil ?_ | refine rd_gcons ?_
  | refine rd_c ?_ | refine rd_op ?_ | refine rd_un ?_ | refine rd_rI0 ?_ | refine rd_rU ?_ | refine rd_tup ?_ | refine rd_lst ?_ | refine rd_nil ?_ | refine rd_cons ?_ | refine rd_cb ?_ | refine rd_call ?_ | refine rd_sl ?_ | refine rd_no ?_ | refine rd_part ?_
  | refine rd_test ?_ | refine rd_tB ?_ | refine rd_not ?_ | refine rd_and ?_ | refine rd_or ?_ | refine rd_notV ?_ | refine rd_andV ?_ | refine rd_orV ?_ | refine rd_ifE ?_ | refine rd_bl ?_ | refine rd_ex ?_
  | refine rd_rng1 ?_ | refine rd_overL ?_ | refine rd_overT ?_ | refine rd_forA ?_ | refine rd_forB ?_ | refine rd_forC ?_ | refine rd_lcA ?_ | refine rd_lcB ?_ | refine rd_lcC ?_ | refine rd_bm ?_ | refine rd_mkv ?_ | refine rd_xv ?_
  | refine rd_T ?_ | refine rd_F ?_ | refine rd_True ?_ | refine rd_False ?_ | refine rd_int ?_ | refine rd_intB ?_ | refine rd_one ?_ | refine rd_two ?_)
local macro_rules | `(tactic| wtm_at "ev_cond") => `(tactic| first | assumption | exact (show (0 : Int) < _ by decide) | exact (show (0 : Int) < _ by omega) | exact Or.inl ⟨by decide, by decide⟩ | exact Or.inr ⟨by decide, by decide⟩ | exact pow_cond (by decide) (by decide) (by first | decide | omega) (by first | decide | omega) | exact wide_div (b := 2000) (by first | assumption | decide | omega) (by first | decide | omega) (by decide) (by decide))
local macro_rules | `(tactic| wtm_at "ev_side") => `(tactic| first
  | ((with_reducible apply rd_var); exact rfl)
  | ((with_reducible apply rd_ixL); (wtm_at "ev_sq"); exact rfl)
  | ((with_reducible apply rd_ixT); (wtm_at "ev_sq"); exact rfl)
  | ((with_reducible apply rd_eq); exact rfl)
  | ((with_reducible apply rd_ne); exact rfl)
  | ((with_reducible apply rd_setL); (wtm_at "ev_lk"); exact rfl)
  | ((with_reducible apply rd_gtup); (wtm_at "ev_sq"); exact rfl)
  | ((with_reducible apply rd_len); (wtm_at "ev_sq"))
  | ((with_reducible apply rd_lenT); (wtm_at "ev_sq"))
  | ((with_reducible apply rd_rg); (first | decide | omega); (first | decide | omega))
  | ((with_reducible apply rd_atL); (wtm_at "ev_sq"))
  | ((with_reducible apply rd_atT); (wtm_at "ev_sq"))
  | ((with_reducible apply rd_tyL); (wtm_at "ev_sq"))
  | ((with_reducible apply rd_cat); (wtm_at "ev_lk"); (wtm_at "ev_lk"); exact Nat.le_of_ble_eq_true rfl)
  | ((with_reducible apply rd_size); exact Nat.le_of_ble_eq_true rfl)
  | ((with_reducible apply rd_rI); wtm_at "ev_cond"))
local macro_rules | `(tactic| wtm_at "ev_rd") => `(tactic| repeat (first | wtm_at "ev_step" | wtm_at "ev_side"))
local macro_rules | `(tactic| wtm_at "ev_go") => `(tactic| ((try simp only [L2.start, List.map_cons, List.map_nil, List.length_cons, List.length_nil, Nat.reduceAdd, Nat.reduceSub, List.replicate_succ, List.replicate_zero, List.cons_append, List.nil_append]); wtm_at "ev_rd"; (try simp only [List.set_cons_zero, List.set_cons_succ, upd_upd])))
local macro_rules | `(tactic| wtm_at "ev_step") => `(tactic| with_reducible first | refine rd_par ?_ | refine rd_par2 ?_ | refine rd_forD ?_)
local macro_rules | `(tactic| wtm_at "ev_side") => `(tactic| ((with_reducible apply rd_enumL); (wtm_at "ev_sq")))
local macro_rules | `(tactic| wtm_at "ev_cond") => `(tactic| exact Num.mul (by assumption) (by assumption))
/-! ### a book's numbers, with a share that all bounds let through -/
def Shared (lo hi : Int) (rs : List (Int × Int × Int)) : Prop := ∃ o u : Int, 0 < u ∧ lo * u ≤ o ∧ o ≤ hi * u ∧ ∀ r ∈ rs, r.2.1 * u ≤ r.1 * o ∧ r.1 * o ≤ r.2.2 * u
/-- the numbers stay small -/
def Within (wd : Int) (rs : List (Int × Int × Int)) : Prop := ∀ r ∈ rs, 1 ≤ r.1 ∧ r.1 ≤ wd ∧ -1000 ≤ r.2.1 ∧ r.2.1 ≤ 1000 ∧ -1000 ≤ r.2.2 ∧ r.2.2 ≤ 1000
def spKind : Sp := fun vs H Q _ => ∃ (p : Addr) (L : List V) (n wd often : Int), vs = [.ref p, .int wd, .int often] ∧ H p = some (.lst L) ∧ PoolL L n ∧ n ≤ 1000000 ∧ 1 ≤ wd ∧ wd ≤ 40 ∧ 0 ≤ often ∧ often ≤ 90 ∧
  ∀ (kd l : Addr) (L' R : List V) (rs : List (Int × Int × Int)) (lo hi : Int) (H' : Hp), Fr p H H' → H' p = some (.lst L') → PoolL L' (n + 1000) → H' kd = some (.tup [.int lo, .int hi, .ref l]) → H kd = none → H' l = some (.lst R) → H l = none → kd ≠ l → RlR H' R rs → (rs.length : Int) ≤ often →
    -20 ≤ lo → lo ≤ hi → hi ≤ 20 → Within wd rs → Shared lo hi rs → Q (.ref kd) H'
theorem floor_low {t u z : Int} (hu : 0 < u) (h1 : -800 * u ≤ t) (h2 : t ≤ 800 * u) (hz : 0 ≤ z) : (if t / u - z > -1000 then t / u - z else -1000) * u ≤ t ∧ -1000 ≤ (if t / u - z > -1000 then t / u - z else -1000) ∧ (if t / u - z > -1000 then t / u - z else -1000) ≤ 1000 := by
  have a1 : t / u * u ≤ t := Int.ediv_mul_le t (by omega)
  generalize t / u = q at a1 ⊢
  have a2 : q ≤ 800 := by
    by_cases h : q ≤ 800
    · exact h
    · have := Int.mul_le_mul_of_nonneg_right (show (801 : Int) ≤ q by omega) (show 0 ≤ u by omega)
      omega
  have a3 : 0 ≤ z * u := Int.mul_nonneg hz (by omega)
  by_cases h : q - z > -1000
  · rw [if_pos h]
    refine ⟨?_, by omega, by omega⟩
    rw [Int.sub_mul]
    omega
  · rw [if_neg h]
    exact ⟨by omega, by omega, by omega⟩
theorem ceil_high {t u y : Int} (hu : 0 < u) (h1 : -800 * u ≤ t) (h2 : t ≤ 800 * u) (hy : 0 ≤ y) : t ≤ (if 0 - (0 - t) / u + y < 1000 then 0 - (0 - t) / u + y else 1000) * u ∧ -1000 ≤ (if 0 - (0 - t) / u + y < 1000 then 0 - (0 - t) / u + y else 1000) ∧ (if 0 - (0 - t) / u + y < 1000 then 0 - (0 - t) / u + y else 1000) ≤ 1000 := by
  have a1 : (0 - t) / u * u ≤ 0 - t := Int.ediv_mul_le (0 - t) (by omega)
  generalize (0 - t) / u = q at a1 ⊢
  have a2 : q ≤ 800 := by
    by_cases h : q ≤ 800
    · exact h
    · have := Int.mul_le_mul_of_nonneg_right (show (801 : Int) ≤ q by omega) (show 0 ≤ u by omega)
      omega
  have a3 : 0 ≤ y * u := Int.mul_nonneg hy (by omega)
  by_cases h : 0 - q + y < 1000
  · rw [if_pos h]
    refine ⟨?_, by omega, by omega⟩
    rw [Int.add_mul, Int.sub_mul]
    omega
  · rw [if_neg h]
    exact ⟨by omega, by omega, by omega⟩
theorem times_in {s o u : Int} (hs : 1 ≤ s) (hs' : s ≤ 40) (hu : 0 < u) (h1 : -20 * u ≤ o) (h2 : o ≤ 20 * u) : -800 * u ≤ s * o ∧ s * o ≤ 800 * u := by
  have b1 := Int.mul_le_mul_of_nonneg_left h1 (show 0 ≤ s by omega)
  have b2 := Int.mul_le_mul_of_nonneg_left h2 (show 0 ≤ s by omega)
  have b3 := Int.mul_le_mul_of_nonneg_right hs' (show 0 ≤ u by omega)
  rw [Int.mul_left_comm] at b1 b2
  exact ⟨by omega, by omega⟩
theorem lt2000 {m : Int} (h : m < 1000000000) : m < 2 ^ 2000 := Int.lt_trans h (by decide +kernel)
section
variable {P : Program} {w : World} {K : PySem.W.Frag} {mg : Str → Option Value} {base : Heap}
set_option maxHeartbeats 4000000 in
theorem ok_kind {f : Addr} {fd : FuncData} (F : Fun K "_law_kind" "_law_kind" s_kind f fd) (T : Blt mg) (GD : CalN P w K mg base 1 "_law_draw" spDraw) : FnOk P w K mg base CX0 2 f fd ["pool", "wide", "often"] spKind := by
  refine F.ok sc_kind (fun vs H Q E h => ?_) (fun cdv A outer s H vs Q E hr h => ?_)
  · obtain ⟨p, L, n, wd, often, rfl, _⟩ := h
    rfl
  · obtain ⟨p, L, n, wd, often, rfl, hp, hL, hn, w1, w2, o1, o2, k⟩ := h
    refine ⟨_, (pss_cons (ps_set (i := 3) sc_kind.nd rfl (Or.inl rfl) (pe_ix ix_list (pe_lst (pa_cons pe_int (pa_cons pe_int (pa_cons (pe_op op_sub (pe_op op_sub pe_int pe_int) (pe_cN GD hr (by decide) (by rfl) (pa_cons (pv 0) (pa_cons pe_int pa_nil)))) (pa_cons (pe_op op_sub (pe_cN GD hr (by decide) (by rfl) (pa_cons (pv 0) (pa_cons pe_int pa_nil))) pe_int) pa_nil))))) (pe_cN GD hr (by decide) (by rfl) (pa_cons (pv 0) (pa_cons pe_int pa_nil))) (fun _ _ => rfl)))
      (pss_cons (ps_set (i := 4) sc_kind.nd rfl (Or.inl rfl) (pe_callB (call_min2 rfl) (by rfl) T.n_min boot_min (pa_cons pe_int (pa_cons (pe_op op_add (pv 3) (pe_ix ix_list (pe_lst (pa_cons pe_int (pa_cons pe_int (pa_cons (pe_op op_add pe_int (pe_cN GD hr (by decide) (by rfl) (pa_cons (pv 0) (pa_cons pe_int pa_nil)))) (pa_cons (pe_cN GD hr (by decide) (by rfl) (pa_cons (pv 0) (pa_cons pe_int pa_nil))) pa_nil))))) (pe_cN GD hr (by decide) (by rfl) (pa_cons (pv 0) (pa_cons pe_int pa_nil))) (fun _ _ => rfl))) pa_nil))))
      (pss_cons (ps_par (i := 5) (j := 6) (by rfl) sc_kind.nd rfl rfl (by decide) rfl rfl (pa_cons (pe_op op_add pe_int (pe_cN GD hr (by decide) (by rfl) (pa_cons (pv 0) (pa_cons pe_int pa_nil)))) (pa_cons (pe_lst pa_nil) pa_nil)) (by rfl))
      (pss_cons (ps_set (i := 7) sc_kind.nd rfl (Or.inl rfl) (pe_op op_add (pe_op op_mulW (pv 3) (pv 5)) (pe_cN GD hr (by decide) (by rfl) (pa_cons (pv 0) (pa_cons (pe_op op_add (pe_op op_mulW (pe_op op_sub (pv 4) (pv 3)) (pv 5)) pe_int) pa_nil)))))
      (pss_cons (ps_for PassesOwn.never rfl (pi_range1 (by rfl) T.n_range (pa_cons (pe_cN GD hr (by decide) (by rfl) (pa_cons (pv 0) (pa_cons (pe_op op_add (pv 2) pe_int) pa_nil))) pa_nil)) (pg_name (i := 8) sc_kind.nd rfl (Or.inl rfl)) 
        (pss_cons (ps_set (i := 9) sc_kind.nd rfl (Or.inl rfl) (pe_op op_add pe_int (pe_cN GD hr (by decide) (by rfl) (pa_cons (pv 0) (pa_cons (pv 1) pa_nil)))))
        (pss_cons (ps_set (i := 10) sc_kind.nd rfl (Or.inl rfl) (pe_op op_sub (pe_op op_fdivW (pe_op op_mulW (pv 9) (pv 7)) (pv 5)) (pe_ix ix_list (pe_lst (pa_cons pe_int (pa_cons pe_int (pa_cons (pe_cN GD hr (by decide) (by rfl) (pa_cons (pv 0) (pa_cons pe_int pa_nil))) (pa_cons (pe_cN GD hr (by decide) (by rfl) (pa_cons (pv 0) (pa_cons (pe_op op_mulW pe_int (pv 9)) pa_nil))) pa_nil))))) (pe_cN GD hr (by decide) (by rfl) (pa_cons (pv 0) (pa_cons pe_int pa_nil))) (fun _ _ => rfl))))
        (pss_cons (ps_set (i := 11) sc_kind.nd rfl (Or.inl rfl) (pe_op op_sub pe_int (pe_op op_fdivW (pe_op op_sub pe_int (pe_op op_mulW (pv 9) (pv 7))) (pv 5))))
        (pss_cons (ps_set (i := 11) sc_kind.nd rfl (Or.inl rfl) (pe_op op_add (pv 11) (pe_ix ix_list (pe_lst (pa_cons pe_int (pa_cons pe_int (pa_cons (pe_cN GD hr (by decide) (by rfl) (pa_cons (pv 0) (pa_cons pe_int pa_nil))) (pa_cons (pe_cN GD hr (by decide) (by rfl) (pa_cons (pv 0) (pa_cons (pe_op op_mulW pe_int (pv 9)) pa_nil))) pa_nil))))) (pe_cN GD hr (by decide) (by rfl) (pa_cons (pv 0) (pa_cons pe_int pa_nil))) (fun _ _ => rfl))))
        (pss_one (ps_expr (pe_bm PySem.F.plainAttrs_list PySem.F.slot_list_append PySem.F.type_list_append mt_append (pv 6) (pa_cons (pe_tup (pa_cons (pv 9) (pa_cons (pe_callB (call_max2 rfl) (by rfl) T.n_max boot_max (pa_cons (pe_un un_neg pe_int) (pa_cons (pv 10) pa_nil))) (pa_cons (pe_callB (call_min2 rfl) (by rfl) T.n_min boot_min (pa_cons pe_int (pa_cons (pv 11) pa_nil))) pa_nil)))) pa_nil)))))))))
      (pss_one (ps_ret (pe_tup (pa_cons (pv 3) (pa_cons (pv 4) (pa_cons (pv 6) pa_nil))))))))))), ?_⟩
    wtm_at "ev_go"
    refine rd_draw (by wtm_at "ev_lk") hL (by omega) (by decide) (by decide +kernel) (fun d1 Ld1 ad1 bd1 hLd1 => ?_)
    wtm_at "ev_go"
    refine rd_draw (by wtm_at "ev_lk") hLd1 (by omega) (by decide) (by decide +kernel) (fun d2 Ld2 ad2 bd2 hLd2 => ?_)
    wtm_at "ev_go"
    intro q1 hq1
    have nq1 := hq1
    simp only [upd_none] at nq1
    repeat obtain ⟨_, nq1⟩ := nq1
    wtm_at "ev_go"
    refine rd_draw (by wtm_at "ev_lk") hLd2 (by omega) (by decide) (by decide +kernel) (fun d3 Ld3 ad3 bd3 hLd3 => ?_)
    wtm_at "ev_go"
    obtain ⟨lo, mlo, elo⟩ := at_intM (ns := [0, 0, 0 - 1 - d1, d2 - 20]) ad3 bd3
    have clo : -20 ≤ lo ∧ lo ≤ 20 := by
      simp only [List.mem_cons, List.not_mem_nil, or_false] at mlo
      omega
    refine rd_ixL (SqL.of (by wtm_at "ev_lk")) elo ?_
    wtm_at "ev_go"
    refine rd_draw (by wtm_at "ev_lk") hLd3 (by omega) (by decide) (by decide +kernel) (fun d4 Ld4 ad4 bd4 hLd4 => ?_)
    wtm_at "ev_go"
    refine rd_draw (by wtm_at "ev_lk") hLd4 (by omega) (by decide) (by decide +kernel) (fun d5 Ld5 ad5 bd5 hLd5 => ?_)
    wtm_at "ev_go"
    intro q2 hq2
    have nq2 := hq2
    simp only [upd_none] at nq2
    repeat obtain ⟨_, nq2⟩ := nq2
    wtm_at "ev_go"
    refine rd_draw (by wtm_at "ev_lk") hLd5 (by omega) (by decide) (by decide +kernel) (fun d6 Ld6 ad6 bd6 hLd6 => ?_)
    wtm_at "ev_go"
    obtain ⟨z6, m6, e6⟩ := at_intM (ns := [1, 1, 1 + d4, d5]) ad6 bd6
    have c6 : 0 ≤ z6 ∧ z6 ≤ 20 := by
      simp only [List.mem_cons, List.not_mem_nil, or_false] at m6
      omega
    refine rd_ixL (SqL.of (by wtm_at "ev_lk")) e6 ?_
    wtm_at "ev_go"
    have chi : lo ≤ (if lo + z6 < 20 then lo + z6 else 20) ∧ (if lo + z6 < 20 then lo + z6 else 20) ≤ 20 := by split <;> omega
    generalize (if lo + z6 < 20 then lo + z6 else 20) = hi at chi ⊢
    refine rd_draw (by wtm_at "ev_lk") hLd6 (by omega) (by decide) (by decide +kernel) (fun d7 Ld7 ad7 bd7 hLd7 => ?_)
    wtm_at "ev_go"
    have num_lo : Num lo := num_of (by omega)
    have num_u : Num (1 + d7) := num_of (by omega)
    have num_w : Num (hi - lo) := num_of (by omega)
    have W0 : 0 ≤ (hi - lo) * (1 + d7) := Int.mul_nonneg (by omega) (by omega)
    have W1 : (hi - lo) * (1 + d7) ≤ 40 * 12 := Int.mul_le_mul (by omega) (by omega) (by omega) (by omega)
    intro l hl
    have nl := hl
    simp only [upd_none] at nl
    repeat obtain ⟨_, nl⟩ := nl
    wtm_at "ev_go"
    refine rd_draw (by wtm_at "ev_lk") hLd7 (by omega) (by omega) (lt2000 (by omega)) (fun d8 Ld8 ad8 bd8 hLd8 => ?_)
    wtm_at "ev_go"
    refine rd_draw (by wtm_at "ev_lk") hLd8 (by omega) (by omega) (lt2000 (by omega)) (fun d9 Ld9 ad9 bd9 hLd9 => ?_)
    wtm_at "ev_go"
    have U0 : 0 < 1 + d7 := by omega
    have U1 : 1 + d7 ≤ 12 := by omega
    generalize 1 + d7 = u at num_u W0 W1 U0 U1 bd8 ⊢
    have O0 : lo * u ≤ lo * u + d8 := by omega
    have O1 : lo * u + d8 ≤ hi * u := by
      rw [Int.sub_mul] at bd8
      omega
    have A1 := Int.mul_le_mul_of_nonneg_right clo.1 (show 0 ≤ u by omega)
    have A2 := Int.mul_le_mul_of_nonneg_right chi.2 (show 0 ≤ u by omega)
    generalize lo * u + d8 = o at O0 O1 ⊢
    have O2 : -20 * u ≤ o := by omega
    have O3 : o ≤ 20 * u := by omega
    have num_o : Num o := num_of (by omega)
    refine rd_forR (fun i σ' H' => ∃ (x8 x9 x10 x11 : Option V) (L' R : List V) (rs : List (Int × Int × Int)), σ' = [some (.ref p), some (.int wd), some (.int often), some (.int lo), some (.int hi), some (.int u), some (.ref l), some (.int o), x8, x9, x10, x11] ∧
      H' p = some (.lst L') ∧ PoolL L' (n + 9 + (i : Int) * 10) ∧ Fr p H H' ∧ H' l = some (.lst R) ∧ RlR H' R rs ∧ rs.length = i ∧ Within wd rs ∧ ∀ r ∈ rs, r.2.1 * u ≤ r.1 * o ∧ r.1 * o ≤ r.2.2 * u)
      ⟨_, _, _, _, Ld9, [], [], rfl, by wtm_at "ev_lk", hLd9.le (by omega), fun b o e nb => by wtm_at "ev_lk", by wtm_at "ev_lk", ⟨rfl, fun i v e => by simp at e⟩, rfl, fun r hr => (by cases hr), fun r hr => (by cases hr)⟩ ?_ ?_
    · rintro i σ' H' hlt ⟨x8, x9, x10, x11, L', R, rs, rfl, hp', hL', fr, hl', hR, hlen, hW, hSh⟩
      have hi90 : i < 90 := by omega
      wtm_at "ev_go"
      refine rd_draw (by wtm_at "ev_lk") hL' (by omega) (by omega) (lt2000 (by omega)) (fun e1 Le1 ae1 be1 hLe1 => ?_)
      have num_20 : Num 20 := num_of (by decide)
      have num_s : Num (1 + e1) := num_of (by omega)
      obtain ⟨t1, t2⟩ := times_in (s := 1 + e1) (by omega) (by omega) U0 O2 O3
      wtm_at "ev_go"
      refine rd_draw (by wtm_at "ev_lk") hLe1 (by omega) (by decide) (by decide +kernel) (fun e2 Le2 ae2 be2 hLe2 => ?_)
      wtm_at "ev_go"
      refine rd_draw (by wtm_at "ev_lk") hLe2 (by omega) (by omega) (lt2000 (by omega)) (fun e3 Le3 ae3 be3 hLe3 => ?_)
      wtm_at "ev_go"
      intro q3 hq3
      have nq3 := hq3
      simp only [upd_none] at nq3
      repeat obtain ⟨_, nq3⟩ := nq3
      wtm_at "ev_go"
      refine rd_draw (by wtm_at "ev_lk") hLe3 (by omega) (by decide) (by decide +kernel) (fun e4 Le4 ae4 be4 hLe4 => ?_)
      wtm_at "ev_go"
      obtain ⟨z7, m7, g7⟩ := at_intM (ns := [0, 0, e2, e3]) ae4 be4
      have c7 : 0 ≤ z7 := by
        simp only [List.mem_cons, List.not_mem_nil, or_false] at m7
        omega
      refine rd_ixL (SqL.of (by wtm_at "ev_lk")) g7 ?_
      wtm_at "ev_go"
      refine rd_draw (by wtm_at "ev_lk") hLe4 (by omega) (by decide) (by decide +kernel) (fun e5 Le5 ae5 be5 hLe5 => ?_)
      wtm_at "ev_go"
      refine rd_draw (by wtm_at "ev_lk") hLe5 (by omega) (by omega) (lt2000 (by omega)) (fun e6 Le6 ae6 be6 hLe6 => ?_)
      wtm_at "ev_go"
      intro q4 hq4
      have nq4 := hq4
      simp only [upd_none] at nq4
      repeat obtain ⟨_, nq4⟩ := nq4
      wtm_at "ev_go"
      refine rd_draw (by wtm_at "ev_lk") hLe6 (by omega) (by decide) (by decide +kernel) (fun e7 Le7 ae7 be7 hLe7 => ?_)
      wtm_at "ev_go"
      obtain ⟨z8, m8, g8⟩ := at_intM (ns := [0, 0, e5, e6]) ae7 be7
      have c8 : 0 ≤ z8 := by
        simp only [List.mem_cons, List.not_mem_nil, or_false] at m8
        omega
      refine rd_ixL (SqL.of (by wtm_at "ev_lk")) g8 ?_
      wtm_at "ev_go"
      obtain ⟨f1, f2, f3⟩ := floor_low U0 t1 t2 c7
      obtain ⟨j1, j2, j3⟩ := ceil_high U0 t1 t2 c8
      generalize (if (1 + e1) * o / u - z7 > -1000 then (1 + e1) * o / u - z7 else -1000) = few at f1 f2 f3 ⊢
      generalize (if 0 - (0 - (1 + e1) * o) / u + z8 < 1000 then 0 - (0 - (1 + e1) * o) / u + z8 else 1000) = more at j1 j2 j3 ⊢
      intro q5 hq5
      have nq5 := hq5
      simp only [upd_none] at nq5
      repeat obtain ⟨_, nq5⟩ := nq5
      wtm_at "ev_go"
      have hRl : R.length ≤ 100 := by rw [hR.1]; omega
      refine rd_append (by wtm_at "ev_lk") (by omega) ?_
      wtm_at "ev_go"
      have r1 := (hR.put (o := .lst Le3) hp').mono (Same.new (o := .lst [.int 0, .int 0, .int e2, .int e3]) hq3)
      have r2 := (r1.put (p := p) (o := .lst Le6) (xs := Le3) (by wtm_at "ev_lk")).mono (Same.new (o := .lst [.int 0, .int 0, .int e5, .int e6]) hq4)
      have r3 := (r2.put (p := p) (o := .lst Le7) (xs := Le6) (by wtm_at "ev_lk")).mono (Same.new (o := .tup [.int (1 + e1), .int few, .int more]) hq5)
      have r4 := (r3.add upd_same num_s (num_of (by omega)) (num_of (by omega))).put (p := l) (o := .lst (R ++ [.ref q5])) (xs := R) (by wtm_at "ev_lk")
      refine ⟨_, _, _, _, Le7, R ++ [.ref q5], rs ++ [(1 + e1, few, more)], rfl, by wtm_at "ev_lk", hLe7.le (by omega), fun b o e nb => ?_, by wtm_at "ev_lk", r4, by rw [List.length_append, hlen]; rfl, fun r hr => ?_, fun r hr => ?_⟩
      · have nbl : b ≠ l := ne_of_none e nl
        have hb := fr b o e nb
        wtm_at "ev_lk"
      · rcases List.mem_append.mp hr with hr | hr
        · exact hW r hr
        · rw [List.mem_singleton.mp hr]
          exact ⟨by omega, by omega, f2, f3, j2, j3⟩
      · rcases List.mem_append.mp hr with hr | hr
        · exact hSh r hr
        · rw [List.mem_singleton.mp hr]
          exact ⟨f1, j1⟩
    · rintro σ' H' ⟨x8, x9, x10, x11, L', R, rs, rfl, hp', hL', fr, hl', hR, hlen, hW, hSh⟩
      wtm_at "ev_go"
      intro kd hkd
      have sK : Same H' (upd H' kd (.tup [.int lo, .int hi, .ref l])) := Same.new hkd
      have nkp : kd ≠ p := (ne_of_none hp' hkd).symm
      have hH : H kd = none := by
        cases e : H kd with
        | none => rfl
        | some z =>
          have := fr _ _ e nkp
          rw [hkd] at this
          cases this
      exact k kd l L' R rs lo hi _ (fr.same sK) (sK _ _ hp') (hL'.le (by omega)) upd_same hH (sK _ _ hl') nl (ne_of_none hl' hkd).symm (hR.mono sK) (by omega) clo.1 chi.1 chi.2 hW ⟨o, u, U0, O0, O1, hSh⟩
end
end Ev

namespace Ev
open PySem PySem.Spec PyProof.Rows L2
local macro_rules | `(tactic| wtm_at "ev_ne") => `(tactic| first | assumption | exact Ne.symm (by assumption))
local macro_rules | `(tactic| wtm_at "ev_lk") => `(tactic| first | assumption | exact upd_same | (refine lk_new' (by assumption) ?_; wtm_at "ev_lk") | (refine lk_ne (by wtm_at "ev_ne") ?_; wtm_at "ev_lk") | (refine same_lk (by assumption) ?_; wtm_at "ev_lk"))
local macro_rules | `(tactic| wtm_at "ev_sm") => `(tactic| first | assumption | exact Same.refl _ | (refine same_new ?_ (by assumption); wtm_at "ev_sm") | (refine Same.trans ?_ (by assumption); wtm_at "ev_sm"))
local macro_rules | `(tactic| wtm_at "ev_no") => `(tactic| first | assumption | exact no_back (by assumption) | (refine no_new ?_ (by wtm_at "ev_ne"); wtm_at "ev_no"))
local macro_rules | `(tactic| wtm_at "ev_sq") => `(tactic| first | assumption | exact SqL.of (by wtm_at "ev_lk") | exact SqT.of (by wtm_at "ev_lk"))
local macro_rules | `(tactic| wtm_at "ev_step") => `(tactic| with_reducible first
  | refine rd_seq ?_ | refine rd_next ?_ | refine rd_ret ?_ | refine rd_retN ?_ | refine rd_if ?_ | refine rd_drop ?_ | refine rd_asg ?_ | refine rd_name ?_ | refine rd_gsub ?_ | refine rd_gnil ?_ | refine rd_gcons ?_
  | refine rd_c ?_ | refine rd_op ?_ | refine rd_un ?_ | refine rd_rI0 ?_ | refine rd_rU ?_ | refine rd_tup ?_ | refine rd_lst ?_ | refine rd_nil ?_ | refine rd_cons ?_ | refine rd_cb ?_ | refine rd_call ?_ | refine rd_sl ?_ | refine rd_no ?_ | refine rd_part ?_
  | refine rd_test ?_ | refine rd_tB ?_ | refine rd_not ?_ | refine rd_and ?_ | refine rd_or ?_ | refine rd_notV ?_ | refine rd_andV ?_ | refine rd_orV ?_ | refine rd_ifE ?_ | refine rd_bl ?_ | refine rd_ex ?_
  | refine rd_rng1 ?_ | refine rd_overL ?_ | refine rd_overT ?_ | refine rd_forA ?_ | refine rd_forB ?_ | refine rd_forC ?_ | refine rd_lcA ?_ | refine rd_lcB ?_ | refine rd_lcC ?_ | refine rd_bm ?_ | refine rd_mkv ?_ | refine rd_xv ?_
  | refine rd_T ?_ | refine rd_F ?_ | refine rd_True ?_ | refine rd_False ?_ | refine rd_int ?_ | refine rd_intB ?_ | refine rd_one ?_ | refine rd_two ?_)
local macro_rules | `(tactic| wtm_at "ev_cond") => `(tactic| first | assumption | exact (show (0 : Int) < _ by decide) | exact (show (0 : Int) < _ by omega) | exact Or.inl ⟨by decide, by decide⟩ | exact Or.inr ⟨by decide, by decide⟩ | exact pow_cond (by decide) (by decide) (by first | decide | omega) (by first | decide | omega) | exact wide_div (b := 2000) (by first | assumption | decide | omega) (by first | decide | omega) (by decide) (by decide))
local macro_rules | `(tactic| wtm_at "ev_side") => `(tactic| first
  | ((with_reducible apply rd_var); exact rfl)
  | ((with_reducible apply rd_ixL); (wtm_at "ev_sq"); exact rfl)
  | ((with_reducible apply rd_ixT); (wtm_at "ev_sq"); exact rfl)
  | ((with_reducible apply rd_eq); exact rfl)
  | ((with_reducible apply rd_ne); exact rfl)
  | ((with_reducible apply rd_setL); (wtm_at "ev_lk"); exact rfl)
  | ((with_reducible apply rd_gtup); (wtm_at "ev_sq"); exact rfl)
  | ((with_reducible apply rd_len); (wtm_at "ev_sq"))
  | ((with_reducible apply rd_lenT); (wtm_at "ev_sq"))
  | ((with_reducible apply rd_rg); (first | decide | omega); (first | decide | omega))
  | ((with_reducible apply rd_atL); (wtm_at "ev_sq"))
  | ((with_reducible apply rd_atT); (wtm_at "ev_sq"))
  | ((with_reducible apply rd_tyL); (wtm_at "ev_sq"))
  | ((with_reducible apply rd_cat); (wtm_at "ev_lk"); (wtm_at "ev_lk"); exact Nat.le_of_ble_eq_true rfl)
  | ((with_reducible apply rd_size); exact Nat.le_of_ble_eq_true rfl)
  | ((with_reducible apply rd_rI); wtm_at "ev_cond"))
local macro_rules | `(tactic| wtm_at "ev_rd") => `(tactic| repeat (first | wtm_at "ev_step" | wtm_at "ev_side"))
local macro_rules | `(tactic| wtm_at "ev_go") => `(tactic| ((try simp only [L2.start, List.map_cons, List.map_nil, List.length_cons, List.length_nil, Nat.reduceAdd, Nat.reduceSub, List.replicate_succ, List.replicate_zero, List.cons_append, List.nil_append]); wtm_at "ev_rd"; (try simp only [List.set_cons_zero, List.set_cons_succ, upd_upd])))
local macro_rules | `(tactic| wtm_at "ev_step") => `(tactic| with_reducible first | refine rd_par ?_ | refine rd_par2 ?_ | refine rd_forD ?_)
local macro_rules | `(tactic| wtm_at "ev_side") => `(tactic| ((with_reducible apply rd_enumL); (wtm_at "ev_sq")))
local macro_rules | `(tactic| wtm_at "ev_cond") => `(tactic| exact Num.mul (by assumption) (by assumption))
/-! ### the file bounds -/
def spIsRule : Sp := fun vs H Q _ => ∃ (a : Addr) (w l m : Int), vs = [.ref a] ∧ H a = some (.tup [.int w, .int l, .int m]) ∧ Q (.bl (decide (1 ≤ w) && decide (l ≤ m))) H
def spLow (K : PySem.W.Frag) : Sp := fun vs H Q _ => ∃ (b : Addr) (L : List V), vs = [.ref b] ∧ SqL K H b L ∧ Rls H L ∧ L ≠ [] ∧ ∀ (p : Addr) (x y : Int), H p = none → Num x → Num y → Q (.ref p) (upd H p (.tup [.int x, .int y]))
def spExc (K : PySem.W.Frag) : Sp := fun vs H Q _ => ∃ (b : Addr) (L : List V) (w l : Int), vs = [.ref b, .int w, .int l] ∧ SqL K H b L ∧ Rls H L ∧ Num w ∧ Num l ∧ ∀ (v : V) (H' : Hp), Same H H' → Q v H'
def spConf (K : PySem.W.Frag) : Sp := fun vs H Q _ => ∃ (b : Addr) (L : List V), vs = [.ref b] ∧ SqL K H b L ∧ Rls H L ∧ L ≠ [] ∧ ∀ (v : V) (H' : Hp), Same H H' → Q v H'
section
variable {P : Program} {w : World} {K : PySem.W.Frag} {mg : Str → Option Value} {base : Heap}
theorem ok_is_rule {f : Addr} {fd : FuncData} (F : Fun K "is_rule" "is_rule" s_is_rule f fd) : FnOk P w K mg base CX0 1 f fd ["rule"] spIsRule := by
  refine F.ok sc_is_rule (fun vs H Q E h => ?_) (fun cdv A outer s H vs Q E hr h => ?_)
  · obtain ⟨a, w, l, m, rfl, _⟩ := h
    rfl
  · obtain ⟨a, w, l, m, rfl, ha, k⟩ := h
    refine ⟨_, (pss_cons (ps_asg (pv 0) (pg_tup rfl (pgs_cons (pg_name (i := 1) sc_is_rule.nd rfl (Or.inl rfl)) (pgs_cons (pg_name (i := 2) sc_is_rule.nd rfl (Or.inl rfl)) (pgs_cons (pg_name (i := 3) sc_is_rule.nd rfl (Or.inl rfl)) pgs_nil)))))
      (pss_one (ps_ret (pe_and (pe_cmpR op_ge (pv 1) pe_int (nomark _)) (pe_one (pe_cmpR op_le (pv 2) (pv 3) (nomark _))))))), ?_⟩
    wtm_at "ev_go"
    refine rd_ite (fun h1 => ?_) (fun h1 => ?_)
    · rw [decide_eq_true h1, Bool.true_and] at k
      wtm_at "ev_go"
      exact k
    · rw [decide_eq_false h1, Bool.false_and] at k
      exact k
theorem ok_lowest {f : Addr} {fd : FuncData} (F : Fun K "lowest_most" "lowest_most" s_lowest_most f fd) (T : Blt mg) : FnOk P w K mg base CX0 1 f fd ["bounds"] (spLow K) := by
  refine F.ok sc_lowest_most (fun vs H Q E h => ?_) (fun cdv A outer s H vs Q E hr h => ?_)
  · obtain ⟨b, L, rfl, _⟩ := h
    rfl
  · obtain ⟨b, L, rfl, hb, hR, hne, k⟩ := h
    obtain ⟨x0, L0, rfl⟩ : ∃ x L0, L = x :: L0 := by
      cases L with
      | nil => exact absurd rfl hne
      | cons x L0 => exact ⟨x, L0, rfl⟩
    obtain ⟨a0, w0, l0, m0, rfl, h0, nw, nl, nm⟩ := hR _ List.mem_cons_self
    refine ⟨_, (pss_cons (ps_asg (pe_ix ix_list (pv 0) pe_int (fun _ _ => rfl)) (pg_tup rfl (pgs_cons (pg_name (i := 1) sc_lowest_most.nd rfl (Or.inl rfl)) (pgs_cons (pg_name (i := 2) sc_lowest_most.nd rfl (Or.inl rfl)) (pgs_cons (pg_name (i := 3) sc_lowest_most.nd rfl (Or.inl rfl)) pgs_nil)))))
      (pss_cons (ps_for PassesOwn.never rfl (pi_list (pv 0)) (pg_tup rfl (pgs_cons (pg_name (i := 4) sc_lowest_most.nd rfl (Or.inl rfl)) (pgs_cons (pg_name (i := 2) sc_lowest_most.nd rfl (Or.inl rfl)) (pgs_cons (pg_name (i := 5) sc_lowest_most.nd rfl (Or.inl rfl)) pgs_nil)))) 
        (pss_one (ps_if (pt_cmpR op_lt (pe_op op_mulW (pv 5) (pv 1)) (pe_op op_mulW (pv 3) (pv 4)) (nomark _)) 
          (pss_one (ps_par (i := 1) (j := 3) (by rfl) sc_lowest_most.nd rfl rfl (by decide) rfl rfl (pa_cons (pv 4) (pa_cons (pv 5) pa_nil)) (by rfl))) pss_nil)))
      (pss_one (ps_ret (pe_tup (pa_cons (pv 3) (pa_cons (pv 1) pa_nil))))))), ?_⟩
    wtm_at "ev_go"
    refine rd_ixL hb (atI_nat (j := 0) rfl) ?_
    wtm_at "ev_go"
    refine rd_forL (fun i σ' H' => ∃ (x2 x4 x5 : Option V) (bw bm : Int), σ' = [some (.ref b), some (.int bw), x2, some (.int bm), x4, x5] ∧ H' = H ∧ Num bw ∧ Num bm) ⟨_, _, _, _, _, rfl, rfl, nw, nm⟩ (fun i σ' H' _ h => by obtain ⟨_, _, _, _, _, _, rfl, _⟩ := h; exact hb) ?_ ?_
    · rintro i x σ' H' hx ⟨x2, x4, x5, bw, bm, rfl, rfl, nbw, nbm⟩
      obtain ⟨a, w, l, m, rfl, ha, nw', nl', nm'⟩ := hR x (List.mem_of_getElem? hx)
      wtm_at "ev_go"
      refine rd_ite (fun _ => ?_) (fun _ => ?_)
      · wtm_at "ev_go"
        exact ⟨_, _, _, _, _, rfl, trivial, nw', nm'⟩
      · wtm_at "ev_go"
        exact ⟨_, _, _, _, _, rfl, trivial, nbw, nbm⟩
    · rintro σ' H' ⟨x2, x4, x5, bw, bm, rfl, rfl, nbw, nbm⟩
      wtm_at "ev_go"
      exact fun p hp => k p _ _ hp nbm nbw
theorem ok_exceeded {f : Addr} {fd : FuncData} (F : Fun K "first_exceeded" "first_exceeded" s_first_exceeded f fd) (T : Blt mg) : FnOk P w K mg base CX0 1 f fd ["bounds", "width", "least"] (spExc K) := by
  refine F.ok sc_first_exceeded (fun vs H Q E h => ?_) (fun cdv A outer s H vs Q E hr h => ?_)
  · obtain ⟨b, L, w, l, rfl, _⟩ := h
    rfl
  · obtain ⟨b, L, w, l, rfl, hb, hR, nw, nl, k⟩ := h
    refine ⟨_, (pss_cons (ps_for PassesOwn.never rfl (pi_enum (by rfl) T.n_enumerate (pa_cons (pv 0) pa_nil)) (pg_tup rfl (pgs_cons (pg_name (i := 3) sc_first_exceeded.nd rfl (Or.inl rfl)) (pgs_cons (pg_tup rfl (pgs_cons (pg_name (i := 4) sc_first_exceeded.nd rfl (Or.inl rfl)) (pgs_cons (pg_name (i := 5) sc_first_exceeded.nd rfl (Or.inl rfl)) (pgs_cons (pg_name (i := 6) sc_first_exceeded.nd rfl (Or.inl rfl)) pgs_nil)))) pgs_nil))) 
        (pss_one (ps_if (pt_cmpR op_gt (pe_op op_mulW (pv 2) (pv 4)) (pe_op op_mulW (pv 6) (pv 1)) (nomark _)) 
          (pss_one (ps_ret (pv 3))) pss_nil)))
      (pss_one (ps_ret pe_non))), ?_⟩
    wtm_at "ev_go"
    refine rd_forE (fun i σ' H' => ∃ (x3 x4 x5 x6 : Option V), σ' = [some (.ref b), some (.int w), some (.int l), x3, x4, x5, x6] ∧ Same H H') ⟨_, _, _, _, rfl, Same.refl _⟩ (fun i σ' H' _ h => by obtain ⟨_, _, _, _, _, z⟩ := h; exact sqL_same hb z) ?_ ?_
    · rintro i x σ' H' p hx ⟨x3, x4, x5, x6, rfl, sm⟩ hp
      have sm2 := sm.trans (Same.new (o := .tup [.int i, x]) hp)
      obtain ⟨a, w', l', m', rfl, ha, nw', nl', nm'⟩ := (hR x (List.mem_of_getElem? hx)).mono sm2
      wtm_at "ev_go"
      refine rd_ite (fun _ => ?_) (fun _ => ?_)
      · wtm_at "ev_go"
        exact k _ _ sm2
      · wtm_at "ev_go"
        exact ⟨_, _, _, _, rfl, sm2⟩
    · rintro σ' H' ⟨x3, x4, x5, x6, rfl, sm⟩
      wtm_at "ev_go"
      exact k _ _ sm
theorem ok_conflict {f : Addr} {fd : FuncData} (F : Fun K "first_conflict" "first_conflict" s_first_conflict f fd) (T : Blt mg) (GL : CalN P w K mg base 1 "lowest_most" (spLow K)) (GE : CalN P w K mg base 1 "first_exceeded" (spExc K)) : FnOk P w K mg base CX0 2 f fd ["bounds"] (spConf K) := by
  refine F.ok sc_first_conflict (fun vs H Q E h => ?_) (fun cdv A outer s H vs Q E hr h => ?_)
  · obtain ⟨b, L, rfl, _⟩ := h
    rfl
  · obtain ⟨b, L, rfl, hb, hR, hne, k⟩ := h
    refine ⟨_, (pss_cons (ps_asg (pe_cN GL hr (by decide) (by rfl) (pa_cons (pv 0) pa_nil)) (pg_tup rfl (pgs_cons (pg_name (i := 1) sc_first_conflict.nd rfl (Or.inl rfl)) (pgs_cons (pg_name (i := 2) sc_first_conflict.nd rfl (Or.inl rfl)) pgs_nil))))
      (pss_cons (ps_for PassesOwn.never rfl (pi_enum (by rfl) T.n_enumerate (pa_cons (pv 0) pa_nil)) (pg_tup rfl (pgs_cons (pg_name (i := 3) sc_first_conflict.nd rfl (Or.inl rfl)) (pgs_cons (pg_tup rfl (pgs_cons (pg_name (i := 4) sc_first_conflict.nd rfl (Or.inl rfl)) (pgs_cons (pg_name (i := 5) sc_first_conflict.nd rfl (Or.inl rfl)) (pgs_cons (pg_name (i := 6) sc_first_conflict.nd rfl (Or.inl rfl)) pgs_nil)))) pgs_nil))) 
        (pss_one (ps_if (pt_cmpR op_gt (pe_op op_mulW (pv 5) (pv 2)) (pe_op op_mulW (pv 1) (pv 4)) (nomark _)) 
          (pss_one (ps_ret (pe_tup (pa_cons (pv 3) (pa_cons (pe_cN GE hr (by decide) (by rfl) (pa_cons (pv 0) (pa_cons (pv 4) (pa_cons (pv 5) pa_nil)))) pa_nil))))) pss_nil)))
      (pss_one (ps_ret pe_non)))), ?_⟩
    wtm_at "ev_go"
    refine ⟨b, L, rfl, hb, hR, hne, fun p x y hp nx ny => ?_⟩
    wtm_at "ev_go"
    have s0 : Same H (upd H p (.tup [.int x, .int y])) := Same.new hp
    refine rd_enumL (sqL_same hb s0) ?_
    refine rd_forE (fun i σ' H' => ∃ (x3 x4 x5 x6 : Option V), σ' = [some (.ref b), some (.int x), some (.int y), x3, x4, x5, x6] ∧ Same H H') ⟨_, _, _, _, rfl, s0⟩ (fun i σ' H' _ h => by obtain ⟨_, _, _, _, _, z⟩ := h; exact sqL_same hb z) ?_ ?_
    · rintro i v σ' H' p hx ⟨x3, x4, x5, x6, rfl, sm⟩ hp
      have sm2 := sm.trans (Same.new (o := .tup [.int i, v]) hp)
      obtain ⟨a, w', l', m', rfl, ha, nw', nl', nm'⟩ := (hR v (List.mem_of_getElem? hx)).mono sm2
      wtm_at "ev_go"
      refine rd_ite (fun _ => ?_) (fun _ => ?_)
      · wtm_at "ev_go"
        refine ⟨b, L, w', l', rfl, sqL_same hb sm2, hR.mono sm2, nw', nl', fun v H3 s3 => ?_⟩
        wtm_at "ev_go"
        exact fun q hq => k _ _ ((sm2.trans s3).trans (Same.new hq))
      · wtm_at "ev_go"
        exact ⟨_, _, _, _, rfl, sm2⟩
    · rintro σ' H' ⟨x3, x4, x5, x6, rfl, sm⟩
      wtm_at "ev_go"
      exact k _ _ sm
end
/-! ### the file books -/
structure TxB (K : PySem.W.Frag) (mg : Str → Option Value) (fI cD cR cB fB fN : Addr) : Prop where
  b : Blt mg
  xD : ExT K mg "InvalidDays" cD fI
  xR : ExT K mg "InvalidRule" cR fI
  cls : Cls K cB
  n1 : NoAttr K cB "_low"
  n2 : NoAttr K cB "_high"
  n3 : NoAttr K cB "_rules"
  n4 : NoAttr K cB "_conflict"
  n5 : NoAttr K cB "_sums"
  n6 : NoAttr K cB "_spots"
  mB : Meth K cB "bounds" fB
  mB2 : Mk K cB fN
  gB : mg "Book" = some (.ref cB)
section
variable {K : PySem.W.Frag} {mg : Str → Option Value} {σ : L2.St} {H : Hp} {a C dx fI : Addr} {fs : List (Str × V)} {f x : Str} {v : V} {te tv : TE} {D : Ends}
theorem rd_fld {Q : VK} (h : te σ H fun x H1 => ∃ a C dx fs v, x = .ref a ∧ H1 a = some (.ins C dx fs) ∧ Cls K C ∧ NoAttr K C f ∧ fs.lookup f = some v ∧ Q v H1) : tFld K te f σ H Q := h
theorem rd_fldA {Q : V → Prop} (h : H a = some (.ins C dx fs)) (c : Cls K C) (n : NoAttr K C f) (l : fs.lookup f = some v) (q : Q v) : ∃ a' C dx fs v, V.ref a = .ref a' ∧ H a' = some (.ins C dx fs) ∧ Cls K C ∧ NoAttr K C f ∧ fs.lookup f = some v ∧ Q v := ⟨a, C, dx, fs, v, rfl, h, c, n, l, q⟩
theorem rd_sfld (h : tv σ H fun y H1 => te σ H1 fun x H2 => ∃ a C dx fs, x = .ref a ∧ H2 a = some (.ins C dx fs) ∧ Cls K C ∧ NoAttr K C f ∧ fs.length < 1000 ∧ D.nx σ (upd H2 a (.ins C dx (putF f y fs)))) : sFld K te tv f D σ H := h
theorem rd_sfldA {A : Addr → Addr → Addr → List (Str × V) → Prop} (h : H a = some (.ins C dx fs)) (c : Cls K C) (n : NoAttr K C f) (l : fs.length < 1000) (q : A a C dx fs) : ∃ a' C dx fs, V.ref a = .ref a' ∧ H a' = some (.ins C dx fs) ∧ Cls K C ∧ NoAttr K C f ∧ fs.length < 1000 ∧ A a' C dx fs := ⟨a, C, dx, fs, rfl, h, c, n, l, q⟩
theorem lk_put {g : Str} (h : ¬ g = f) : (putF f v fs).lookup g = fs.lookup g := by rw [lookup_putF, if_neg h]
theorem lk_put0 : (putF f v fs).lookup f = some v := by rw [lookup_putF, if_pos rfl]
theorem len_put : ∀ fs : List (Str × V), (putF f v fs).length ≤ fs.length + 1
  | [] => Nat.le_refl _
  | (g, x) :: r => by
    show (if g = f then (g, v) :: r else (g, x) :: putF f v r).length ≤ _
    by_cases e : g = f
    · rw [if_pos e, List.length_cons, List.length_cons]
      omega
    · rw [if_neg e, List.length_cons, List.length_cons]
      have := len_put r
      omega
theorem len_put' {n : Nat} (h : fs.length ≤ n) : (putF f v fs).length ≤ n + 1 := Nat.le_trans (len_put fs) (by omega)
theorem len_nil : ([] : List (Str × V)).length ≤ 0 := Nat.le_refl _
/-- raise C(v), C an own error: what stands behind it -/
theorem rd_mko {Q : XK} (T : ExT K mg x C fI) (q : ∀ d H', Same H H' → H' d = some (.xd [(("value" : Str), v)]) → Q (.ref C) (some d) H') :
    [v].length ≤ 1000 ∧ ∀ a, H a = none → spInit K (.ref a :: ([v] ++ [])) (upd H a (exo a C none)) (fun u H2 => u = .non ∧ ∃ (d : Addr) (fs : List (Str × V)), H2 a = some (exo a C (some d)) ∧ H2 d = some (exd d fs) ∧ H d = none ∧ Q (.ref C) (some d) (upd (del H2 a) d (.xd fs))) (fun _ _ _ => False) := by
  refine ⟨Nat.le_of_ble_eq_true rfl, fun a ha => ⟨a, C, v, rfl, upd_same, T.c, T.n, fun d hd ne => ⟨rfl, d, _, upd_same, by rw [upd_ne ne]; exact upd_same, ?_, q d _ (fun b o e => ?_) upd_same⟩⟩⟩
  · rw [upd_ne ne] at hd
    exact hd
  · have h1 : b ≠ a := ne_of_none e ha
    have h2 : b ≠ d := ne_of_none (lk_new e ha) hd
    rw [upd_ne h2, del_ne h1, upd_ne h1, upd_ne h2, upd_ne h1]
    exact e
theorem rd_raise {t : L2.St → Hp → XK → Prop} {W : WX} (h : t σ H fun cls d H' => W cls d σ H') : (fun (_ : Ends) σ H => t σ H fun cls d H' => W cls d σ H') D σ H := h
theorem rd_tmko {sp : Sp} {dvs : List V} {ta : TA} {Q : XK} (h : ta σ H fun vs H1 => vs.length ≤ 1000 ∧ ∀ a, H1 a = none → sp (.ref a :: (vs ++ dvs)) (upd H1 a (exo a C none))
  (fun v H2 => v = .non ∧ ∃ (d : Addr) (fs : List (Str × V)), H2 a = some (exo a C (some d)) ∧ H2 d = some (exd d fs) ∧ H1 d = none ∧ Q (.ref C) (some d) (upd (del H2 a) d (.xd fs))) (fun _ _ _ => False)) : tMkO C sp dvs ta σ H Q := h
theorem rd_meth0 {m : Str} {sp : Sp} {dvs : List V} {E : XK} {t : TA} {Q : VK} (h : te σ H fun x H1 => ∃ a dx fs, x = .ref a ∧ H1 a = some (.ins C dx fs) ∧ fs.lookup m = none ∧ t σ H1 fun vs H2 => sp (x :: (vs ++ dvs)) H2 Q E) : tMeth C m sp dvs E te t σ H Q := h
end
local macro_rules | `(tactic| wtm_at "ev_step") => `(tactic| with_reducible first | refine rd_fld ?_ | refine rd_sfld ?_ | refine rd_tmko ?_ | refine rd_meth0 ?_)
/-- the first wrong rule -/
def Bad (rs : List (Int × Int × Int)) (i : Nat) : Prop := ∃ r, rs[i]? = some r ∧ okR r = false ∧ ∀ (j : Nat) r', j < i → rs[j]? = some r' → okR r' = true
def Fine (rs : List (Int × Int × Int)) : Prop := ∀ (j : Nat) r', rs[j]? = some r' → okR r' = true
def spBnd (C : Addr) : Sp := fun vs H Q _ => ∃ (a dx r : Addr) (fs : List (Str × V)) (lo hi : Int) (L : List V), vs = [.ref a] ∧ H a = some (.ins C dx fs) ∧ fs.lookup ("_low" : Str) = some (.int lo) ∧ fs.lookup ("_high" : Str) = some (.int hi) ∧ fs.lookup ("_rules" : Str) = some (.ref r) ∧ H r = some (.lst L) ∧ Rls H L ∧ L.length ≤ 1000 ∧ Num lo ∧ Num hi ∧
  ∀ (p : Addr) (L' : List V) (H' : Hp), Same H H' → H' p = some (.lst L') → L' ≠ [] → Rls H' L' → Q (.ref p) H'
/-- at a: a book with these numbers, its rules those of L in a list of its own -/
def BookAt (C : Addr) (H : Hp) (a : Addr) (lo hi : Int) (L : List V) : Prop := ∃ (dx l : Addr) (fs : List (Str × V)), H a = some (.ins C dx fs) ∧ H l = some (.lst L) ∧ fs.lookup ("_low" : Str) = some (.int lo) ∧ fs.lookup ("_high" : Str) = some (.int hi) ∧ fs.lookup ("_rules" : Str) = some (.ref l) ∧
  fs.lookup ("turned" : Str) = none ∧ fs.lookup ("scaled" : Str) = none
theorem BookAt.mono {C a : Addr} {H H' : Hp} {lo hi : Int} {L : List V} (h : BookAt C H a lo hi L) (s : Same H H') : BookAt C H' a lo hi L := by
  obtain ⟨dx, l, fs, h1, h2, r⟩ := h
  exact ⟨dx, l, fs, s _ _ h1, s _ _ h2, r⟩
def spBook (C cD cR : Addr) : Sp := fun vs H Q E => ∃ (a dx r : Addr) (lo hi : Int) (L : List V) (rs : List (Int × Int × Int)), vs = [.ref a, .int lo, .int hi, .ref r] ∧ H a = some (.ins C dx []) ∧ H r = some (.lst L) ∧ RlR H L rs ∧ L.length ≤ 1000 ∧ Num lo ∧ Num hi ∧
  (hi < lo → ∀ (d t : Addr) (H' : Hp), Same H H' → H' d = some (.xd [(("value" : Str), .ref t)]) → H' t = some (.tup [.int lo, .int hi]) → E (.ref cD) (some d) H') ∧
  (lo ≤ hi → ∀ (i : Nat) (d : Addr) (H' : Hp), Bad rs i → Same H H' → H' d = some (.xd [(("value" : Str), .int i)]) → E (.ref cR) (some d) H') ∧
  (lo ≤ hi → Fine rs → ∀ H', Fr a H H' → BookAt C H' a lo hi L → Q .non H')
section
variable {P : Program} {w : World} {K : PySem.W.Frag} {mg : Str → Option Value} {base : Heap} {fI cD cR cB fB fN : Addr}
theorem ok_bounds {f : Addr} {fd : FuncData} (F : Fun K "bounds" "Book.bounds" s_Book_bounds f fd) (T : TxB K mg fI cD cR cB fB fN) : FnOk P w K mg base CX0 1 f fd ["self"] (spBnd cB) := by
  refine F.ok sc_Book_bounds (fun vs H Q E h => ?_) (fun cdv A outer s H vs Q E hr h => ?_)
  · obtain ⟨a, dx, r, fs, lo, hi, L, rfl, _⟩ := h
    rfl
  · obtain ⟨a, dx, r, fs, lo, hi, L, rfl, ha, l1, l2, l3, hL, hR, hle, nlo, nhi, k⟩ := h
    refine ⟨_, (pss_one (ps_ret (pe_op op_cat (pe_lst (pa_cons (pe_tup (pa_cons pe_int (pa_cons (pe_fld (pv 0) rfl) (pa_cons (pe_fld (pv 0) rfl) pa_nil)))) pa_nil)) (pe_fld (pv 0) rfl)))), ?_⟩
    wtm_at "ev_go"
    refine rd_fldA ha T.cls T.n1 l1 ?_
    wtm_at "ev_go"
    refine rd_fldA ha T.cls T.n2 l2 ?_
    wtm_at "ev_go"
    intro t ht
    wtm_at "ev_go"
    intro q hq
    have s1 : Same H (upd H t (.tup [.int 1, .int lo, .int hi])) := Same.new ht
    have s2 := s1.trans (Same.new (o := .lst [.ref t]) hq)
    have nt : t ≠ q := (ne_of_none upd_same hq)
    wtm_at "ev_go"
    refine rd_fldA (s2 _ _ ha) T.cls T.n3 l3 ?_
    wtm_at "ev_go"
    refine rd_cat upd_same (s2 _ _ hL) (by rw [List.length_cons, List.length_nil]; omega) (fun p hp => ?_)
    have s3 := s2.trans (Same.new (o := .lst ([.ref t] ++ L)) hp)
    refine k p _ _ s3 upd_same (fun z => by cases z) (fun x hx => ?_)
    rcases List.mem_append.mp hx with hx | hx
    · rw [List.mem_singleton.mp hx]
      exact ⟨t, 1, lo, hi, rfl, lk_ne (ne_of_none (lk_ne nt upd_same) hp) (lk_ne nt upd_same), (by decide : (1 : Nat) < 2 ^ 1000), nlo, nhi⟩
    · exact (hR x hx).mono s3
theorem ok_binit {f : Addr} {fd fdI fdB : FuncData} (F : Fun K "__init__" "Book.__init__" s_Book_init f fd) (T : TxB K mg fI cD cR cB fB fN) (GI : FnOk P w K mg base CX0 1 fI fdI ["self", "value"] (spInit K)) (bI : Binds K fdI ["self", "value"] [])
    (GR : CalN P w K mg base 1 "is_rule" spIsRule) (GC : CalN P w K mg base 2 "first_conflict" (spConf K)) (GB : FnOk P w K mg base CX0 1 fB fdB ["self"] (spBnd cB)) (bB : Binds K fdB ["self"] []) : FnOk P w K mg base (L2.CX P w) 4 f fd ["self", "low", "high", "rules"] (spBook cB cD cR) := by
  refine F.okX sc_Book_init (fun vs H Q E h => ?_) (fun cdv A outer s H vs Q E hr h => ?_)
  · obtain ⟨a, dx, r, lo, hi, L, rs, rfl, _⟩ := h
    rfl
  · obtain ⟨a, dx, r, lo, hi, L, rs, rfl, ha, hr0, hR, hle, nlo, nhi, k1, k2, k3⟩ := h
    have hr1 : Room 2 _ := hr.mono (by decide)
    refine ⟨_, (pss_cons (ps_if (pt_cmpR op_gt (pv 1) (pv 2) (nomark _)) 
        (pss_one (ps_raise rfl (takes_of rfl rfl rfl rfl) (pmk_oex T.xD.c T.xD.i T.xD.t GI hr1 bI .nil pass0 (by rfl) T.xD.g (pa_cons (pe_tup (pa_cons (pv 1) (pa_cons (pv 2) pa_nil))) pa_nil)))) pss_nil)
      (pss_cons (ps_for (passes_of rfl) rfl (pi_enum (by rfl) T.b.n_enumerate (pa_cons (pv 3) pa_nil)) (pg_tup rfl (pgs_cons (pg_name (i := 4) sc_Book_init.nd rfl (Or.inl rfl)) (pgs_cons (pg_name (i := 5) sc_Book_init.nd rfl (Or.inl rfl)) pgs_nil))) 
        (pss_one (ps_if (pt_not (pt_val (pe_cN GR hr1 (by decide) (by rfl) (pa_cons (pv 5) pa_nil)))) 
          (pss_one (ps_raise rfl (takes_of rfl rfl rfl rfl) (pmk_oex T.xR.c T.xR.i T.xR.t GI hr1 bI .nil pass0 (by rfl) T.xR.g (pa_cons (pv 4) pa_nil)))) pss_nil)))
      (pss_cons (ps_fld (pv 0) (pv 1) rfl)
      (pss_cons (ps_fld (pv 0) (pv 2) rfl)
      (pss_cons (ps_fld (pv 0) (pe_callTy call_list_of (by rfl) T.b.n_list boot_list (pa_cons (pv 3) pa_nil)) rfl)
      (pss_cons (ps_fld (pv 0) (pe_cN GC hr1 (by decide) (by rfl) (pa_cons (pe_meth0 (pv 0) T.cls T.mB GB (hr1.mono (by decide)) bB .nil pass0) pa_nil)) rfl)
      (pss_cons (ps_fld (pv 0) pe_non rfl)
      (pss_one (ps_fld (pv 0) pe_non rfl))))))))), ?_⟩
    wtm_at "ev_go"
    refine rd_ite (fun hlt => ?_) (fun hlt => ?_)
    · wtm_at "ev_go"
      intro t ht
      wtm_at "ev_go"
      exact rd_mko T.xD (fun d H' s e => k1 hlt d t H' ((Same.new ht).trans s) e (s _ _ upd_same))
    · wtm_at "ev_go"
      refine rd_forE (fun i σ' H' => ∃ (x4 x5 : Option V), σ' = [some (.ref a), some (.int lo), some (.int hi), some (.ref r), x4, x5] ∧ Same H H' ∧ ∀ (j : Nat) r', j < i → rs[j]? = some r' → okR r' = true) ⟨_, _, rfl, Same.refl _, fun j _ hj => absurd hj (Nat.not_lt_zero _)⟩
        (fun i σ' H' _ h => by obtain ⟨_, _, _, z, _⟩ := h; exact SqL.of (z _ _ hr0)) ?_ ?_
      · rintro i v σ' H' p hx ⟨x4, x5, rfl, sm, al⟩ hp
        have sm2 := sm.trans (Same.new (o := .tup [.int i, v]) hp)
        obtain ⟨b, q, rfl, hq, hb, nq⟩ := (hR.mono sm2).2 i v hx
        wtm_at "ev_go"
        refine ⟨b, q.1, q.2.1, q.2.2, rfl, hb, ?_⟩
        have e1 : (decide (1 ≤ q.1) && decide (q.2.1 ≤ q.2.2)) = okR q := rfl
        rw [e1]
        wtm_at "ev_go"
        cases ho : okR q with
        | true =>
          rw [if_neg (by decide : ¬ (!true) = true)]
          wtm_at "ev_go"
          refine ⟨_, _, rfl, sm2, fun j r' hj e => ?_⟩
          rcases Nat.lt_succ_iff_lt_or_eq.mp hj with h | rfl
          · exact al j r' h e
          · rw [hq] at e
            cases e
            exact ho
        | false =>
          rw [if_pos (by decide : (!false) = true)]
          wtm_at "ev_go"
          exact rd_mko T.xR (fun d H'' s e => k2 (by omega) i d H'' ⟨q, hq, ho, al⟩ (sm2.trans s) e)
      · rintro σ' H' ⟨x4, x5, rfl, sm, al⟩
        have fine : Fine rs := fun j r' e => al j r' (by rw [hR.1]; exact (List.getElem?_eq_some_iff.mp e).1) e
        wtm_at "ev_go"
        refine rd_sfldA (sm _ _ ha) T.cls T.n1 (by decide) ?_
        wtm_at "ev_go"
        refine rd_sfldA upd_same T.cls T.n2 (Nat.lt_of_le_of_lt (len_put _) (by decide)) ?_
        wtm_at "ev_go"
        have nra : r ≠ a := ne_of (sm _ _ hr0) (sm _ _ ha) (fun z => by cases z)
        refine ⟨r, L, rfl, .inl (SqL.of (lk_ne nra (sm _ _ hr0))), fun l hl => ?_⟩
        have nla : a ≠ l := ne_of_none upd_same hl
        wtm_at "ev_go"
        refine rd_sfldA (lk_ne nla upd_same) T.cls T.n3 (Nat.lt_of_le_of_lt (len_put' (len_put' len_nil)) (by decide)) ?_
        wtm_at "ev_go"
        refine ⟨a, dx, _, rfl, upd_same, by rw [lk_put (by decide +kernel), lk_put (by decide +kernel), lk_put (by decide +kernel)]; rfl, ?_⟩
        wtm_at "ev_go"
        have fr : Fr a H _ := (((Fr.of sm).put (x := .ins cB dx (putF "_high" (.int hi) (putF "_low" (.int lo) [])))).same (Same.new (o := .lst L) hl)).put (x := .ins cB dx (putF "_rules" (.ref l) (putF "_high" (.int hi) (putF "_low" (.int lo) []))))
        have rls : Rls _ L := fun x hx => by
          obtain ⟨b, w', l', m', rfl, e, n⟩ := hR.rls x hx
          exact ⟨b, w', l', m', rfl, fr _ _ e (ne_of e ha (fun z => by cases z)), n⟩
        refine ⟨a, dx, l, _, lo, hi, L, rfl, upd_same, by rw [lk_put (by decide +kernel), lk_put (by decide +kernel)]; exact lk_put0, by rw [lk_put (by decide +kernel)]; exact lk_put0, lk_put0, lk_ne (Ne.symm nla) upd_same, rls, hle, nlo, nhi, fun p L' H3 s3 hp3 ne3 r3 => ?_⟩
        wtm_at "ev_go"
        refine ⟨p, L', rfl, SqL.of hp3, r3, ne3, fun v H4 s4 => ?_⟩
        wtm_at "ev_go"
        refine rd_sfldA (s4 _ _ (s3 _ _ upd_same)) T.cls T.n4 (Nat.lt_of_le_of_lt (len_put' (len_put' (len_put' len_nil))) (by decide)) ?_
        wtm_at "ev_go"
        refine rd_sfldA upd_same T.cls T.n5 (Nat.lt_of_le_of_lt (len_put' (len_put' (len_put' (len_put' len_nil)))) (by decide)) ?_
        wtm_at "ev_go"
        refine rd_sfldA upd_same T.cls T.n6 (Nat.lt_of_le_of_lt (len_put' (len_put' (len_put' (len_put' (len_put' len_nil))))) (by decide)) ?_
        wtm_at "ev_go"
        refine k3 (by omega) fine _ ((fr.same (s3.trans s4)).put) ⟨dx, l, _, upd_same, lk_ne (Ne.symm nla) ((s3.trans s4) _ _ (lk_ne (Ne.symm nla) upd_same)), ?_, ?_, ?_, ?_, ?_⟩
        · rw [lk_put (by decide +kernel), lk_put (by decide +kernel), lk_put (by decide +kernel), lk_put (by decide +kernel), lk_put (by decide +kernel)]
          exact lk_put0
        · rw [lk_put (by decide +kernel), lk_put (by decide +kernel), lk_put (by decide +kernel), lk_put (by decide +kernel)]
          exact lk_put0
        · rw [lk_put (by decide +kernel), lk_put (by decide +kernel), lk_put (by decide +kernel)]
          exact lk_put0
        · rw [lk_put (by decide +kernel), lk_put (by decide +kernel), lk_put (by decide +kernel), lk_put (by decide +kernel), lk_put (by decide +kernel), lk_put (by decide +kernel)]
          rfl
        · rw [lk_put (by decide +kernel), lk_put (by decide +kernel), lk_put (by decide +kernel), lk_put (by decide +kernel), lk_put (by decide +kernel), lk_put (by decide +kernel)]
          rfl
end
end Ev

namespace Ev
open PySem PySem.Spec PyProof.Rows L2
local macro_rules | `(tactic| wtm_at "ev_ne") => `(tactic| first | assumption | exact Ne.symm (by assumption))
local macro_rules | `(tactic| wtm_at "ev_lk") => `(tactic| first | assumption | exact upd_same | (refine lk_new' (by assumption) ?_; wtm_at "ev_lk") | (refine lk_ne (by wtm_at "ev_ne") ?_; wtm_at "ev_lk") | (refine same_lk (by assumption) ?_; wtm_at "ev_lk"))
local macro_rules | `(tactic| wtm_at "ev_sm") => `(tactic| first | assumption | exact Same.refl _ | (refine same_new ?_ (by assumption); wtm_at "ev_sm") | (refine Same.trans ?_ (by assumption); wtm_at "ev_sm"))
local macro_rules | `(tactic| wtm_at "ev_no") => `(tactic| first | assumption | exact no_back (by assumption) | (refine no_new ?_ (by wtm_at "ev_ne"); wtm_at "ev_no"))
local macro_rules | `(tactic| wtm_at "ev_sq") => `(tactic| first | assumption | exact SqL.of (by wtm_at "ev_lk") | exact SqT.of (by wtm_at "ev_lk"))
local macro_rules | `(tactic| wtm_at "ev_step") => `(tactic| with_reducible first
  | refine rd_seq ?_ | refine rd_next ?_ | refine rd_ret ?_ | refine rd_retN ?_ | refine rd_if ?_ | refine rd_drop ?_ | refine rd_asg ?_ | refine rd_name ?_ | refine rd_gsub ?_ | refine rd_gnil ?_ | refine rd_gcons ?_
  | refine rd_c ?_ | refine rd_op ?_ | refine rd_un ?_ | refine rd_rI0 ?_ | refine rd_rU ?_ | refine rd_tup ?_ | refine rd_lst ?_ | refine rd_nil ?_ | refine rd_cons ?_ | refine rd_cb ?_ | refine rd_call ?_ | refine rd_sl ?_ | refine rd_no ?_ | refine rd_part ?_
  | refine rd_test ?_ | refine rd_tB ?_ | refine rd_not ?_ | refine rd_and ?_ | refine rd_or ?_ | refine rd_notV ?_ | refine rd_andV ?_ | refine rd_orV ?_ | refine rd_ifE ?_ | refine rd_bl ?_ | refine rd_ex ?_
  | refine rd_rng1 ?_ | refine rd_overL ?_ | refine rd_overT ?_ | refine rd_forA ?_ | refine rd_forB ?_ | refine rd_forC ?_ | refine rd_lcA ?_ | refine rd_lcB ?_ | refine rd_lcC ?_ | refine rd_bm ?_ | refine rd_mkv ?_ | refine rd_xv ?_
  | refine rd_T ?_ | refine rd_F ?_ | refine rd_True ?_ | refine rd_False ?_ | refine rd_int ?_ | refine rd_intB ?_ | refine rd_one ?_ | refine rd_two ?_)
local macro_rules | `(tactic| wtm_at "ev_cond") => `(tactic| first | assumption | exact (show (0 : Int) < _ by decide) | exact (show (0 : Int) < _ by omega) | exact Or.inl ⟨by decide, by decide⟩ | exact Or.inr ⟨by decide, by decide⟩ | exact pow_cond (by decide) (by decide) (by first | decide | omega) (by first | decide | omega) | exact wide_div (b := 2000) (by first | assumption | decide | omega) (by first | decide | omega) (by decide) (by decide))
local macro_rules | `(tactic| wtm_at "ev_side") => `(tactic| first
  | ((with_reducible apply rd_var); exact rfl)
  | ((with_reducible apply rd_ixL); (wtm_at "ev_sq"); exact rfl)
  | ((with_reducible apply rd_ixT); (wtm_at "ev_sq"); exact rfl)
  | ((with_reducible apply rd_eq); exact rfl)
  | ((with_reducible apply rd_ne); exact rfl)
  | ((with_reducible apply rd_setL); (wtm_at "ev_lk"); exact rfl)
  | ((with_reducible apply rd_gtup); (wtm_at "ev_sq"); exact rfl)
  | ((with_reducible apply rd_len); (wtm_at "ev_sq"))
  | ((with_reducible apply rd_lenT); (wtm_at "ev_sq"))
  | ((with_reducible apply rd_rg); (first | decide | omega); (first | decide | omega))
  | ((with_reducible apply rd_atL); (wtm_at "ev_sq"))
  | ((with_reducible apply rd_atT); (wtm_at "ev_sq"))
  | ((with_reducible apply rd_tyL); (wtm_at "ev_sq"))
  | ((with_reducible apply rd_cat); (wtm_at "ev_lk"); (wtm_at "ev_lk"); exact Nat.le_of_ble_eq_true rfl)
  | ((with_reducible apply rd_size); exact Nat.le_of_ble_eq_true rfl)
  | ((with_reducible apply rd_rI); wtm_at "ev_cond"))
local macro_rules | `(tactic| wtm_at "ev_rd") => `(tactic| repeat (first | wtm_at "ev_step" | wtm_at "ev_side"))
local macro_rules | `(tactic| wtm_at "ev_go") => `(tactic| ((try simp only [L2.start, List.map_cons, List.map_nil, List.length_cons, List.length_nil, Nat.reduceAdd, Nat.reduceSub, List.replicate_succ, List.replicate_zero, List.cons_append, List.nil_append]); wtm_at "ev_rd"; (try simp only [List.set_cons_zero, List.set_cons_succ, upd_upd])))
local macro_rules | `(tactic| wtm_at "ev_step") => `(tactic| with_reducible first | refine rd_par ?_ | refine rd_par2 ?_ | refine rd_forD ?_)
local macro_rules | `(tactic| wtm_at "ev_side") => `(tactic| ((with_reducible apply rd_enumL); (wtm_at "ev_sq")))
local macro_rules | `(tactic| wtm_at "ev_cond") => `(tactic| exact Num.mul (by assumption) (by assumption))
local macro_rules | `(tactic| wtm_at "ev_step") => `(tactic| with_reducible first | refine rd_fld ?_ | refine rd_sfld ?_ | refine rd_tmko ?_ | refine rd_meth0 ?_)
section
variable {σ : L2.St} {H : Hp}
theorem rd_make {C : Addr} {sp : Sp} {dvs : List V} {E : XK} {t : TA} {Q : VK} (h : t σ H fun vs H1 => ∀ x dx, H1 x = none → H1 dx = none → dx ≠ x → sp (.ref x :: (vs ++ dvs)) (upd (upd H1 dx (.own x)) x (.ins C dx [])) (fun v H2 => v = .non ∧ Q (.ref x) H2) E) : tMake C sp dvs E t σ H Q := h
end
local macro_rules | `(tactic| wtm_at "ev_step") => `(tactic| with_reducible first | refine rd_make ?_)
theorem Shared.fine {lo hi : Int} {rs : List (Int × Int × Int)} {wd : Int} (h : Shared lo hi rs) (g : Within wd rs) : Fine rs := fun j r e => by
  obtain ⟨o, u, hu, _, _, a⟩ := h
  have hm := List.mem_of_getElem? e
  obtain ⟨b1, b2⟩ := a r hm
  have : r.2.1 ≤ r.2.2 := Int.le_of_mul_le_mul_right (Int.le_trans b1 b2) hu
  unfold okR
  rw [decide_eq_true (g r hm).1, decide_eq_true this]
  rfl
def spMade (C : Addr) : Sp := fun vs H Q _ => ∃ (k l : Addr) (lo hi : Int) (R : List V) (rs : List (Int × Int × Int)), vs = [.ref k] ∧ H k = some (.tup [.int lo, .int hi, .ref l]) ∧ H l = some (.lst R) ∧ RlR H R rs ∧ R.length ≤ 1000 ∧ Num lo ∧ Num hi ∧ lo ≤ hi ∧ Fine rs ∧
  ∀ (a : Addr) (H' : Hp), Same H H' → H a = none → BookAt C H' a lo hi R → Q (.ref a) H'
section
variable {P : Program} {w : World} {K : PySem.W.Frag} {mg : Str → Option Value} {base : Heap} {fI cD cR cB fB fN : Addr}
theorem ok_made {f : Addr} {fd fdN : FuncData} (F : Fun K "_law_made" "_law_made" s_made f fd) (T : TxB K mg fI cD cR cB fB fN) (GN : FnOk P w K mg base (L2.CX P w) 4 fN fdN ["self", "low", "high", "rules"] (spBook cB cD cR)) (bN : Binds K fdN ["self", "low", "high", "rules"] []) : FnOk P w K mg base CX0 6 f fd ["kind"] (spMade cB) := by
  refine F.ok sc_made (fun vs H Q E h => ?_) (fun cdv A outer s H vs Q E hr h => ?_)
  · obtain ⟨k, l, lo, hi, R, rs, rfl, _⟩ := h
    rfl
  · obtain ⟨k, l, lo, hi, R, rs, rfl, hk, hl, hR, hle, nlo, nhi, lohi, fine, q⟩ := h
    refine ⟨_, (pss_one (ps_ret (pe_make T.mB2 GN hr (by rfl) T.gB bN .nil L2.passL (pa_cons (pe_ix ix_tup (pv 0) pe_int (fun _ _ => rfl)) (pa_cons (pe_ix ix_tup (pv 0) pe_int (fun _ _ => rfl)) (pa_cons (pe_callTy call_list_of (by rfl) T.b.n_list boot_list (pa_cons (pe_ix ix_tup (pv 0) pe_int (fun _ _ => rfl)) pa_nil)) pa_nil)))))), ?_⟩
    wtm_at "ev_go"
    intro c hc
    wtm_at "ev_go"
    intro x dx hx hdx ne
    have sC : Same H (upd H c (.lst R)) := Same.new hc
    have sN : Same H (upd (upd (upd H c (.lst R)) dx (.own x)) x (.ins cB dx [])) := sC.trans ((Same.new hdx).trans (Same.new (by rw [upd_ne (Ne.symm ne)]; exact hx)))
    have sX : Same (upd H c (.lst R)) (upd (upd (upd H c (.lst R)) dx (.own x)) x (.ins cB dx [])) := (Same.new hdx).trans (Same.new (by rw [upd_ne (Ne.symm ne)]; exact hx))
    refine ⟨x, dx, c, lo, hi, R, rs, rfl, upd_same, sX _ _ upd_same, hR.mono sN, hle, nlo, nhi, fun h => absurd h (by omega), fun _ i d H' bad _ _ => ?_, fun _ _ H' fr bk => ⟨rfl, ?_⟩⟩
    · obtain ⟨r, e, b, _⟩ := bad
      rw [fine _ _ e] at b
      cases b
    · exact q x H' (fun b o z => fr b o (sN b o z) (ne_of_none (sC _ _ z) hx)) (sC.free hx) bk
end
end Ev

namespace Ev
open PySem PySem.Spec PyProof.Rows L2
local macro_rules | `(tactic| wtm_at "ev_ne") => `(tactic| first | assumption | exact Ne.symm (by assumption))
local macro_rules | `(tactic| wtm_at "ev_lk") => `(tactic| first | assumption | exact upd_same | (refine lk_new' (by assumption) ?_; wtm_at "ev_lk") | (refine lk_ne (by wtm_at "ev_ne") ?_; wtm_at "ev_lk") | (refine same_lk (by assumption) ?_; wtm_at "ev_lk"))
local macro_rules | `(tactic| wtm_at "ev_sm") => `(tactic| first | assumption | exact Same.refl _ | (refine same_new ?_ (by assumption); wtm_at "ev_sm") | (refine Same.trans ?_ (by assumption); wtm_at "ev_sm"))
local macro_rules | `(tactic| wtm_at "ev_no") => `(tactic| first | assumption | exact no_back (by assumption) | (refine no_new ?_ (by wtm_at "ev_ne"); wtm_at "ev_no"))
local macro_rules | `(tactic| wtm_at "ev_sq") => `(tactic| first | assumption | exact SqL.of (by wtm_at "ev_lk") | exact SqT.of (by wtm_at "ev_lk"))
local macro_rules | `(tactic| wtm_at "ev_step") => `(tactic| with_reducible first
  | refine rd_seq ?_ | refine rd_next ?_ | refine rd_ret ?_ | refine rd_retN ?_ | refine rd_if ?_ | refine rd_drop ?_ | refine rd_asg ?_ | refine rd_name ?_ | refine rd_gsub ?_ | refine rd_gnil ?_ | refine rd_gcons ?_
  | refine rd_c ?_ | refine rd_op ?_ | refine rd_un ?_ | refine rd_rI0 ?_ | refine rd_rU ?_ | refine rd_tup ?_ | refine rd_lst ?_ | refine rd_nil ?_ | refine rd_cons ?_ | refine rd_cb ?_ | refine rd_call ?_ | refine rd_sl ?_ | refine rd_no ?_ | refine rd_part ?_
  | refine rd_test ?_ | refine rd_tB ?_ | refine rd_not ?_ | refine rd_and ?_ | refine rd_or ?_ | refine rd_notV ?_ | refine rd_andV ?_ | refine rd_orV ?_ | refine rd_ifE ?_ | refine rd_bl ?_ | refine rd_ex ?_
  | refine rd_rng1 ?_ | refine rd_overL ?_ | refine rd_overT ?_ | refine rd_forA ?_ | refine rd_forB ?_ | refine rd_forC ?_ | refine rd_lcA ?_ | refine rd_lcB ?_ | refine rd_lcC ?_ | refine rd_bm ?_ | refine rd_mkv ?_ | refine rd_xv ?_
  | refine rd_T ?_ | refine rd_F ?_ | refine rd_True ?_ | refine rd_False ?_ | refine rd_int ?_ | refine rd_intB ?_ | refine rd_one ?_ | refine rd_two ?_)
local macro_rules | `(tactic| wtm_at "ev_cond") => `(tactic| first | assumption | exact (show (0 : Int) < _ by decide) | exact (show (0 : Int) < _ by omega) | exact Or.inl ⟨by decide, by decide⟩ | exact Or.inr ⟨by decide, by decide⟩ | exact pow_cond (by decide) (by decide) (by first | decide | omega) (by first | decide | omega) | exact wide_div (b := 2000) (by first | assumption | decide | omega) (by first | decide | omega) (by decide) (by decide))
local macro_rules | `(tactic| wtm_at "ev_side") => `(tactic| first
  | ((with_reducible apply rd_var); exact rfl)
  | ((with_reducible apply rd_ixL); (wtm_at "ev_sq"); exact rfl)
  | ((with_reducible apply rd_ixT); (wtm_at "ev_sq"); exact rfl)
  | ((with_reducible apply rd_eq); exact rfl)
  | ((with_reducible apply rd_ne); exact rfl)
  | ((with_reducible apply rd_setL); (wtm_at "ev_lk"); exact rfl)
  | ((with_reducible apply rd_gtup); (wtm_at "ev_sq"); exact rfl)
  | ((with_reducible apply rd_len); (wtm_at "ev_sq"))
  | ((with_reducible apply rd_lenT); (wtm_at "ev_sq"))
  | ((with_reducible apply rd_rg); (first | decide | omega); (first | decide | omega))
  | ((with_reducible apply rd_atL); (wtm_at "ev_sq"))
  | ((with_reducible apply rd_atT); (wtm_at "ev_sq"))
  | ((with_reducible apply rd_tyL); (wtm_at "ev_sq"))
  | ((with_reducible apply rd_cat); (wtm_at "ev_lk"); (wtm_at "ev_lk"); exact Nat.le_of_ble_eq_true rfl)
  | ((with_reducible apply rd_size); exact Nat.le_of_ble_eq_true rfl)
  | ((with_reducible apply rd_rI); wtm_at "ev_cond"))
local macro_rules | `(tactic| wtm_at "ev_rd") => `(tactic| repeat (first | wtm_at "ev_step" | wtm_at "ev_side"))
local macro_rules | `(tactic| wtm_at "ev_go") => `(tactic| ((try simp only [L2.start, List.map_cons, List.map_nil, List.length_cons, List.length_nil, Nat.reduceAdd, Nat.reduceSub, List.replicate_succ, List.replicate_zero, List.cons_append, List.nil_append]); wtm_at "ev_rd"; (try simp only [List.set_cons_zero, List.set_cons_succ, upd_upd])))
local macro_rules | `(tactic| wtm_at "ev_step") => `(tactic| with_reducible first | refine rd_par ?_ | refine rd_par2 ?_ | refine rd_forD ?_)
local macro_rules | `(tactic| wtm_at "ev_side") => `(tactic| ((with_reducible apply rd_enumL); (wtm_at "ev_sq")))
local macro_rules | `(tactic| wtm_at "ev_cond") => `(tactic| exact Num.mul (by assumption) (by assumption))
local macro_rules | `(tactic| wtm_at "ev_step") => `(tactic| with_reducible first | refine rd_fld ?_ | refine rd_sfld ?_ | refine rd_tmko ?_ | refine rd_meth0 ?_)
/-! ### a list of rules made from a list of rules -/
section
variable {K : PySem.W.Frag} {σ : L2.St} {H : Hp}
theorem rd_lcRule {a : Addr} {L : List V} {rs : List (Int × Int × Int)} {m s1 s2 s3 : Nat} {te : TE} {Q : VK} (g : Int × Int × Int → Int × Int × Int) (hL : SqL K H a L) (hR : RlR H L rs) (hn : L.length ≤ 1000) (hm : m = 3)
    (hg : ∀ r ∈ rs, Num (g r).1 ∧ Num (g r).2.1 ∧ Num (g r).2.2)
    (hw : ∀ x y z : V, L2.wipe ((((L2.wipe σ [s1, s2, s3]).set s1 (some x)).set s2 (some y)).set s3 (some z)) [s1, s2, s3] = L2.wipe σ [s1, s2, s3])
    (he : ∀ (r : Int × Int × Int) (H' : Hp) (Q' : VK), r ∈ rs → Same H H' → (∀ p, H' p = none → Q' (.ref p) (upd H' p (.tup [.int (g r).1, .int (g r).2.1, .int (g r).2.2]))) →
      te ((((L2.wipe σ [s1, s2, s3]).set s1 (some (.int r.1))).set s2 (some (.int r.2.1))).set s3 (some (.int r.2.2))) H' Q')
    (q : ∀ (l : Addr) (R : List V) (H' : Hp), Same H H' → H l = none → H' l = some (.lst R) → RlR H' R (rs.map g) → Q (.ref l) H') :
    tLc (fun _ H' R => R (Itl K a) H') (gTup K m (gCons (gName s1) (gCons (gName s2) (gCons (gName s3) gNil)))) tYes te [s1, s2, s3] σ H Q := fun l hl => by
  subst hm
  refine lc_list (xs := L) (fun i H' => ∃ acc, Same H H' ∧ H' l = some (.lst acc) ∧ RlR H' acc ((rs.take i).map g)) ⟨[], Same.new hl, upd_same, rfl, fun i v e => by simp at e⟩ (fun i H' _ h => by obtain ⟨_, s, _⟩ := h; exact sqL_same hL s) (fun i x H' hx h => ?_) (fun H' h => ?_)
  · obtain ⟨acc, sm, hacc, hRa⟩ := h
    obtain ⟨b, r, rfl, hr, hb, _⟩ := hR.2 i x hx
    have hrm := List.mem_of_getElem? hr
    refine ⟨b, _, rfl, SqT.of (sm _ _ hb), rfl, _, _, rfl, _, _, rfl, _, _, rfl, rfl, hw _ _ _, ?_⟩
    dsimp only [tYes]
    rw [if_pos rfl]
    refine he r H' _ hrm sm (fun p hp => ?_)
    have npl : l ≠ p := ne_of_none hacc hp
    obtain ⟨n1, n2, n3⟩ := hg r hrm
    have hlen : acc.length = ((rs.take i).map g).length := hRa.1
    refine ⟨acc, lk_ne npl hacc, ?_, acc ++ [.ref p], fun c o z => ?_, upd_same, ?_⟩
    · rw [hlen, List.length_map, List.length_take, sizeLine_eq]
      have := hR.1
      omega
    · have ncl : c ≠ l := ne_of_none z hl
      have ncp : c ≠ p := ne_of_none (sm _ _ z) hp
      rw [upd_ne ncl, upd_ne ncp]
      exact sm _ _ z
    · have e : (rs.take (i + 1)).map g = (rs.take i).map g ++ [g r] := by
        rw [List.take_add_one, hr]
        simp
      rw [e]
      exact ((hRa.mono (Same.new hp)).add upd_same n1 n2 n3).put (lk_ne npl hacc)
  · obtain ⟨acc, sm, hacc, hRa⟩ := h
    rw [hR.1, List.take_length] at hRa
    exact q l acc H' sm hl hacc hRa
end
end Ev

namespace Ev
open PySem PySem.Spec PyProof.Rows L2
local macro_rules | `(tactic| wtm_at "ev_ne") => `(tactic| first | assumption | exact Ne.symm (by assumption))
local macro_rules | `(tactic| wtm_at "ev_lk") => `(tactic| first | assumption | exact upd_same | (refine lk_new' (by assumption) ?_; wtm_at "ev_lk") | (refine lk_ne (by wtm_at "ev_ne") ?_; wtm_at "ev_lk") | (refine same_lk (by assumption) ?_; wtm_at "ev_lk"))
local macro_rules | `(tactic| wtm_at "ev_sm") => `(tactic| first | assumption | exact Same.refl _ | (refine same_new ?_ (by assumption); wtm_at "ev_sm") | (refine Same.trans ?_ (by assumption); wtm_at "ev_sm"))
local macro_rules | `(tactic| wtm_at "ev_no") => `(tactic| first | assumption | exact no_back (by assumption) | (refine no_new ?_ (by wtm_at "ev_ne"); wtm_at "ev_no"))
local macro_rules | `(tactic| wtm_at "ev_sq") => `(tactic| first | assumption | exact SqL.of (by wtm_at "ev_lk") | exact SqT.of (by wtm_at "ev_lk"))
local macro_rules | `(tactic| wtm_at "ev_step") => `(tactic| with_reducible first
  | refine rd_seq ?_ | refine rd_next ?_ | refine rd_ret ?_ | refine rd_retN ?_ | refine rd_if ?_ | refine rd_drop ?_ | refine rd_asg ?_ | refine rd_name ?_ | refine rd_gsub ?_ | refine rd_gnil ?_ | refine rd_gcons ?_
  | refine rd_c ?_ | refine rd_op ?_ | refine rd_un ?_ | refine rd_rI0 ?_ | refine rd_rU ?_ | refine rd_tup ?_ | refine rd_lst ?_ | refine rd_nil ?_ | refine rd_cons ?_ | refine rd_cb ?_ | refine rd_call ?_ | refine rd_sl ?_ | refine rd_no ?_ | refine rd_part ?_
  | refine rd_test ?_ | refine rd_tB ?_ | refine rd_not ?_ | refine rd_and ?_ | refine rd_or ?_ | refine rd_notV ?_ | refine rd_andV ?_ | refine rd_orV ?_ | refine rd_ifE ?_ | refine rd_bl ?_ | refine rd_ex ?_
  | refine rd_rng1 ?_ | refine rd_overL ?_ | refine rd_overT ?_ | refine rd_forA ?_ | refine rd_forB ?_ | refine rd_forC ?_ | refine rd_lcA ?_ | refine rd_lcB ?_ | refine rd_lcC ?_ | refine rd_bm ?_ | refine rd_mkv ?_ | refine rd_xv ?_
  | refine rd_T ?_ | refine rd_F ?_ | refine rd_True ?_ | refine rd_False ?_ | refine rd_int ?_ | refine rd_intB ?_ | refine rd_one ?_ | refine rd_two ?_)
local macro_rules | `(tactic| wtm_at "ev_cond") => `(tactic| first | assumption | exact (show (0 : Int) < _ by decide) | exact (show (0 : Int) < _ by omega) | exact Or.inl ⟨by decide, by decide⟩ | exact Or.inr ⟨by decide, by decide⟩ | exact pow_cond (by decide) (by decide) (by first | decide | omega) (by first | decide | omega) | exact wide_div (b := 2000) (by first | assumption | decide | omega) (by first | decide | omega) (by decide) (by decide))
local macro_rules | `(tactic| wtm_at "ev_side") => `(tactic| first
  | ((with_reducible apply rd_var); exact rfl)
  | ((with_reducible apply rd_ixL); (wtm_at "ev_sq"); exact rfl)
  | ((with_reducible apply rd_ixT); (wtm_at "ev_sq"); exact rfl)
  | ((with_reducible apply rd_eq); exact rfl)
  | ((with_reducible apply rd_ne); exact rfl)
  | ((with_reducible apply rd_setL); (wtm_at "ev_lk"); exact rfl)
  | ((with_reducible apply rd_gtup); (wtm_at "ev_sq"); exact rfl)
  | ((with_reducible apply rd_len); (wtm_at "ev_sq"))
  | ((with_reducible apply rd_lenT); (wtm_at "ev_sq"))
  | ((with_reducible apply rd_rg); (first | decide | omega); (first | decide | omega))
  | ((with_reducible apply rd_atL); (wtm_at "ev_sq"))
  | ((with_reducible apply rd_atT); (wtm_at "ev_sq"))
  | ((with_reducible apply rd_tyL); (wtm_at "ev_sq"))
  | ((with_reducible apply rd_cat); (wtm_at "ev_lk"); (wtm_at "ev_lk"); exact Nat.le_of_ble_eq_true rfl)
  | ((with_reducible apply rd_size); exact Nat.le_of_ble_eq_true rfl)
  | ((with_reducible apply rd_rI); wtm_at "ev_cond"))
local macro_rules | `(tactic| wtm_at "ev_rd") => `(tactic| repeat (first | wtm_at "ev_step" | wtm_at "ev_side"))
local macro_rules | `(tactic| wtm_at "ev_go") => `(tactic| ((try simp only [L2.start, List.map_cons, List.map_nil, List.length_cons, List.length_nil, Nat.reduceAdd, Nat.reduceSub, List.replicate_succ, List.replicate_zero, List.cons_append, List.nil_append]); wtm_at "ev_rd"; (try simp only [List.set_cons_zero, List.set_cons_succ, upd_upd])))
local macro_rules | `(tactic| wtm_at "ev_step") => `(tactic| with_reducible first | refine rd_par ?_ | refine rd_par2 ?_ | refine rd_forD ?_)
local macro_rules | `(tactic| wtm_at "ev_side") => `(tactic| ((with_reducible apply rd_enumL); (wtm_at "ev_sq")))
local macro_rules | `(tactic| wtm_at "ev_cond") => `(tactic| exact Num.mul (by assumption) (by assumption))
local macro_rules | `(tactic| wtm_at "ev_step") => `(tactic| with_reducible first | refine rd_fld ?_ | refine rd_sfld ?_ | refine rd_tmko ?_ | refine rd_meth0 ?_)
local macro_rules | `(tactic| wtm_at "ev_step") => `(tactic| with_reducible first | refine rd_make ?_)
theorem num_neg {i : Int} (h : Num i) : Num (-i) := by
  unfold Num at h ⊢
  rw [Int.natAbs_neg]
  exact h
def negR (r : Int × Int × Int) : Int × Int × Int := (r.1, -r.2.2, -r.2.1)
theorem Fine.neg {rs : List (Int × Int × Int)} (h : Fine rs) : Fine (rs.map negR) := fun j r e => by
  rw [List.getElem?_map] at e
  cases e1 : rs[j]? with
  | none =>
    rw [e1] at e
    cases e
  | some r' =>
    rw [e1] at e
    cases e
    have := h j r' e1
    unfold okR at this ⊢
    obtain ⟨a, b⟩ := Bool.and_eq_true_iff.mp this
    have a' := of_decide_eq_true a
    have b' := of_decide_eq_true b
    show (decide (1 ≤ r'.1) && decide (-r'.2.2 ≤ -r'.2.1)) = true
    rw [a, decide_eq_true (by omega)]
    rfl
def spTurned (C : Addr) : Sp := fun vs H Q _ => ∃ (a : Addr) (lo hi : Int) (R : List V) (rs : List (Int × Int × Int)), vs = [.ref a] ∧ BookAt C H a lo hi R ∧ RlR H R rs ∧ R.length ≤ 1000 ∧ Num lo ∧ Num hi ∧ lo ≤ hi ∧ Fine rs ∧
  ∀ (b : Addr) (R' : List V) (H' : Hp), Same H H' → H b = none → BookAt C H' b (-hi) (-lo) R' → RlR H' R' (rs.map negR) → Q (.ref b) H'
section
variable {P : Program} {w : World} {K : PySem.W.Frag} {mg : Str → Option Value} {base : Heap} {fI cD cR cB fB fN : Addr}
theorem ok_turned {f : Addr} {fd fdN : FuncData} (F : Fun K "turned" "Book.turned" s_Book_turned f fd) (T : TxB K mg fI cD cR cB fB fN) (GN : FnOk P w K mg base (L2.CX P w) 4 fN fdN ["self", "low", "high", "rules"] (spBook cB cD cR)) (bN : Binds K fdN ["self", "low", "high", "rules"] []) : FnOk P w K mg base CX0 6 f fd ["self"] (spTurned cB) := by
  refine F.ok sc_Book_turned (fun vs H Q E h => ?_) (fun cdv A outer s H vs Q E hr h => ?_)
  · obtain ⟨a, lo, hi, R, rs, rfl, _⟩ := h
    rfl
  · obtain ⟨a, lo, hi, R, rs, rfl, bk, hR, hle, nlo, nhi, lohi, fine, q⟩ := h
    obtain ⟨dx, l, fs, ha, hl, l1, l2, l3, l4, l5⟩ := id bk
    refine ⟨_, (pss_one (ps_ret (pe_make T.mB2 GN hr (by rfl) T.gB bN .nil L2.passL (pa_cons (pe_un un_neg (pe_fld (pv 0) rfl)) (pa_cons (pe_un un_neg (pe_fld (pv 0) rfl)) (pa_cons (pe_lc (own := [("width", 1), ("least", 2), ("most", 3)]) (g := gTup K 3 (gCons (gName 1) (gCons (gName 2) (gCons (gName 3) gNil)))) (tt := tYes) rfl sc_Book_turned.nd (pi_list (pe_fld (pv 0) rfl)) (blkOk_by (N := ["self", "width", "least", "most"]) (sc := defScope s_Book_turned) (by decide +kernel)) (fun _ _ _ _ _ => pg_tup rfl (pgs_cons (pg_name (i := 1) sc_Book_turned.nd rfl (Or.inl rfl)) (pgs_cons (pg_name (i := 2) sc_Book_turned.nd rfl (Or.inl rfl)) (pgs_cons (pg_name (i := 3) sc_Book_turned.nd rfl (Or.inl rfl)) pgs_nil)))) (fun _ _ _ _ _ => pts_nil) (fun _ _ _ _ _ => (pe_tup (pa_cons (pv 1) (pa_cons (pe_un un_neg (pv 3)) (pa_cons (pe_un un_neg (pv 2)) pa_nil)))))) pa_nil)))))), ?_⟩
    wtm_at "ev_go"
    refine rd_fldA ha T.cls T.n2 l2 ?_
    wtm_at "ev_go"
    refine rd_fldA ha T.cls T.n1 l1 ?_
    wtm_at "ev_go"
    refine rd_fldA ha T.cls T.n3 l3 ?_
    wtm_at "ev_go"
    refine rd_lcRule negR (SqL.of hl) hR hle rfl (fun r hr => ?_) (fun x y z => rfl) (fun r H' Q' _ _ h => ?_) (fun c R' H1 s1 hc hR1 hRR => ?_)
    · obtain ⟨i, hi⟩ := List.getElem?_of_mem hr
      obtain ⟨v, hv⟩ : ∃ v, R[i]? = some v := by
        have := (List.getElem?_eq_some_iff.mp hi).1
        exact ⟨_, List.getElem?_eq_getElem (by rw [hR.1]; exact this)⟩
      obtain ⟨b, r', _, e, _, n1, n2, n3⟩ := hR.2 i v hv
      rw [hi] at e
      cases e
      exact ⟨n1, num_neg n3, num_neg n2⟩
    · simp only [L2.wipe, List.foldl_cons, List.foldl_nil, List.set_cons_succ, List.set_cons_zero]
      wtm_at "ev_go"
      exact h
    · wtm_at "ev_go"
      intro x dx' hx hdx ne
      have sN : Same H1 (upd (upd H1 dx' (.own x)) x (.ins cB dx' [])) := (Same.new hdx).trans (Same.new (by rw [upd_ne (Ne.symm ne)]; exact hx))
      refine ⟨x, dx', c, -hi, -lo, R', rs.map negR, rfl, upd_same, sN _ _ hR1, hRR.mono sN, by rw [hRR.1, List.length_map, ← hR.1]; exact hle, num_neg nhi, num_neg nlo, fun h => absurd h (by omega), fun _ i d H' bad _ _ => ?_, fun _ _ H' fr bk' => ⟨rfl, ?_⟩⟩
      · obtain ⟨r, e, b, _⟩ := bad
        rw [fine.neg _ _ e] at b
        cases b
      · have sX : Same H1 H' := fun b o z => fr b o (sN b o z) (ne_of_none z hx)
        exact q x R' H' (s1.trans sX) (s1.free hx) bk' (hRR.mono sX)
end
end Ev

namespace Ev
open PySem PySem.Spec PyProof.Rows L2
local macro_rules | `(tactic| wtm_at "ev_ne") => `(tactic| first | assumption | exact Ne.symm (by assumption))
local macro_rules | `(tactic| wtm_at "ev_lk") => `(tactic| first | assumption | exact upd_same | (refine lk_new' (by assumption) ?_; wtm_at "ev_lk") | (refine lk_ne (by wtm_at "ev_ne") ?_; wtm_at "ev_lk") | (refine same_lk (by assumption) ?_; wtm_at "ev_lk"))
local macro_rules | `(tactic| wtm_at "ev_sm") => `(tactic| first | assumption | exact Same.refl _ | (refine same_new ?_ (by assumption); wtm_at "ev_sm") | (refine Same.trans ?_ (by assumption); wtm_at "ev_sm"))
local macro_rules | `(tactic| wtm_at "ev_no") => `(tactic| first | assumption | exact no_back (by assumption) | (refine no_new ?_ (by wtm_at "ev_ne"); wtm_at "ev_no"))
local macro_rules | `(tactic| wtm_at "ev_sq") => `(tactic| first | assumption | exact SqL.of (by wtm_at "ev_lk") | exact SqT.of (by wtm_at "ev_lk"))
local macro_rules | `(tactic| wtm_at "ev_step") => `(tactic| with_reducible first
  | refine rd_seq ?_ | refine rd_next ?_ | refine rd_ret ?_ | refine rd_retN ?_ | refine rd_if ?_ | refine rd_drop ?_ | refine rd_asg ?_ | refine rd_name ?_ | refine rd_gsub ?_ | refine rd_gnil ?_ | refine rd_gcons ?_
  | refine rd_c ?_ | refine rd_op ?_ | refine rd_un ?_ | refine rd_rI0 ?_ | refine rd_rU ?_ | refine rd_tup ?_ | refine rd_lst ?_ | refine rd_nil ?_ | refine rd_cons ?_ | refine rd_cb ?_ | refine rd_call ?_ | refine rd_sl ?_ | refine rd_no ?_ | refine rd_part ?_
  | refine rd_test ?_ | refine rd_tB ?_ | refine rd_not ?_ | refine rd_and ?_ | refine rd_or ?_ | refine rd_notV ?_ | refine rd_andV ?_ | refine rd_orV ?_ | refine rd_ifE ?_ | refine rd_bl ?_ | refine rd_ex ?_
  | refine rd_rng1 ?_ | refine rd_overL ?_ | refine rd_overT ?_ | refine rd_forA ?_ | refine rd_forB ?_ | refine rd_forC ?_ | refine rd_lcA ?_ | refine rd_lcB ?_ | refine rd_lcC ?_ | refine rd_bm ?_ | refine rd_mkv ?_ | refine rd_xv ?_
  | refine rd_T ?_ | refine rd_F ?_ | refine rd_True ?_ | refine rd_False ?_ | refine rd_int ?_ | refine rd_intB ?_ | refine rd_one ?_ | refine rd_two ?_)
local macro_rules | `(tactic| wtm_at "ev_cond") => `(tactic| first | assumption | exact (show (0 : Int) < _ by decide) | exact (show (0 : Int) < _ by omega) | exact Or.inl ⟨by decide, by decide⟩ | exact Or.inr ⟨by decide, by decide⟩ | exact pow_cond (by decide) (by decide) (by first | decide | omega) (by first | decide | omega) | exact wide_div (b := 2000) (by first | assumption | decide | omega) (by first | decide | omega) (by decide) (by decide))
local macro_rules | `(tactic| wtm_at "ev_side") => `(tactic| first
  | ((with_reducible apply rd_var); exact rfl)
  | ((with_reducible apply rd_ixL); (wtm_at "ev_sq"); exact rfl)
  | ((with_reducible apply rd_ixT); (wtm_at "ev_sq"); exact rfl)
  | ((with_reducible apply rd_eq); exact rfl)
  | ((with_reducible apply rd_ne); exact rfl)
  | ((with_reducible apply rd_setL); (wtm_at "ev_lk"); exact rfl)
  | ((with_reducible apply rd_gtup); (wtm_at "ev_sq"); exact rfl)
  | ((with_reducible apply rd_len); (wtm_at "ev_sq"))
  | ((with_reducible apply rd_lenT); (wtm_at "ev_sq"))
  | ((with_reducible apply rd_rg); (first | decide | omega); (first | decide | omega))
  | ((with_reducible apply rd_atL); (wtm_at "ev_sq"))
  | ((with_reducible apply rd_atT); (wtm_at "ev_sq"))
  | ((with_reducible apply rd_tyL); (wtm_at "ev_sq"))
  | ((with_reducible apply rd_cat); (wtm_at "ev_lk"); (wtm_at "ev_lk"); exact Nat.le_of_ble_eq_true rfl)
  | ((with_reducible apply rd_size); exact Nat.le_of_ble_eq_true rfl)
  | ((with_reducible apply rd_rI); wtm_at "ev_cond"))
local macro_rules | `(tactic| wtm_at "ev_rd") => `(tactic| repeat (first | wtm_at "ev_step" | wtm_at "ev_side"))
local macro_rules | `(tactic| wtm_at "ev_go") => `(tactic| ((try simp only [L2.start, List.map_cons, List.map_nil, List.length_cons, List.length_nil, Nat.reduceAdd, Nat.reduceSub, List.replicate_succ, List.replicate_zero, List.cons_append, List.nil_append]); wtm_at "ev_rd"; (try simp only [List.set_cons_zero, List.set_cons_succ, upd_upd])))
local macro_rules | `(tactic| wtm_at "ev_step") => `(tactic| with_reducible first | refine rd_par ?_ | refine rd_par2 ?_ | refine rd_forD ?_)
local macro_rules | `(tactic| wtm_at "ev_side") => `(tactic| ((with_reducible apply rd_enumL); (wtm_at "ev_sq")))
local macro_rules | `(tactic| wtm_at "ev_cond") => `(tactic| exact Num.mul (by assumption) (by assumption))
local macro_rules | `(tactic| wtm_at "ev_step") => `(tactic| with_reducible first | refine rd_fld ?_ | refine rd_sfld ?_ | refine rd_tmko ?_ | refine rd_meth0 ?_)
local macro_rules | `(tactic| wtm_at "ev_step") => `(tactic| with_reducible first | refine rd_make ?_)
def spLTurned : Sp := fun vs H Q _ => ∃ (k l : Addr) (lo hi : Int) (R : List V) (rs : List (Int × Int × Int)), vs = [.ref k] ∧ H k = some (.tup [.int lo, .int hi, .ref l]) ∧ H l = some (.lst R) ∧ RlR H R rs ∧ R.length ≤ 1000 ∧
  ∀ (d c : Addr) (R' : List V) (H' : Hp), Same H H' → H d = none → H' d = some (.tup [.int (-hi), .int (-lo), .ref c]) → H' c = some (.lst R') → RlR H' R' (rs.map negR) → Q (.ref d) H'
theorem RlR.nums {H : Hp} {L : List V} {rs : List (Int × Int × Int)} (h : RlR H L rs) : ∀ r ∈ rs, Num r.1 ∧ Num r.2.1 ∧ Num r.2.2 := fun r hr => by
  obtain ⟨i, hi⟩ := List.getElem?_of_mem hr
  have := (List.getElem?_eq_some_iff.mp hi).1
  have hj : i < L.length := by
    rw [h.1]
    exact this
  have hv : L[i]? = some L[i] := List.getElem?_eq_getElem hj
  obtain ⟨b, r', _, e, _, n⟩ := h.2 i _ hv
  rw [hi] at e
  cases e
  exact n
section
variable {P : Program} {w : World} {K : PySem.W.Frag} {mg : Str → Option Value} {base : Heap} {fI cD cR cB fB fN : Addr}
theorem ok_lturned {f : Addr} {fd : FuncData} (F : Fun K "_law_turned" "_law_turned" s_turned f fd) (T : Blt mg) : FnOk P w K mg base CX0 1 f fd ["kind"] spLTurned := by
  refine F.ok sc_turned (fun vs H Q E h => ?_) (fun cdv A outer s H vs Q E hr h => ?_)
  · obtain ⟨k, l, lo, hi, R, rs, rfl, _⟩ := h
    rfl
  · obtain ⟨k, l, lo, hi, R, rs, rfl, hk, hl, hR, hle, q⟩ := h
    refine ⟨_, (pss_one (ps_ret (pe_tup (pa_cons (pe_op op_sub pe_int (pe_ix ix_tup (pv 0) pe_int (fun _ _ => rfl))) (pa_cons (pe_op op_sub pe_int (pe_ix ix_tup (pv 0) pe_int (fun _ _ => rfl))) (pa_cons (pe_lc (own := [("size", 1), ("few", 2), ("more", 3)]) (g := gTup K 3 (gCons (gName 1) (gCons (gName 2) (gCons (gName 3) gNil)))) (tt := tYes) rfl sc_turned.nd (pi_list (pe_ix ix_tup (pv 0) pe_int (fun _ _ => rfl))) (blkOk_by (N := ["kind", "size", "few", "more"]) (sc := defScope s_turned) (by decide +kernel)) (fun _ _ _ _ _ => pg_tup rfl (pgs_cons (pg_name (i := 1) sc_turned.nd rfl (Or.inl rfl)) (pgs_cons (pg_name (i := 2) sc_turned.nd rfl (Or.inl rfl)) (pgs_cons (pg_name (i := 3) sc_turned.nd rfl (Or.inl rfl)) pgs_nil)))) (fun _ _ _ _ _ => pts_nil) (fun _ _ _ _ _ => (pe_tup (pa_cons (pv 1) (pa_cons (pe_op op_sub pe_int (pv 3)) (pa_cons (pe_op op_sub pe_int (pv 2)) pa_nil)))))) pa_nil)))))), ?_⟩
    wtm_at "ev_go"
    refine rd_lcRule negR (SqL.of hl) hR hle rfl (fun r hr => ?_) (fun x y z => rfl) (fun r H' Q' _ _ h => ?_) (fun c R' H1 s1 hc hR1 hRR => ?_)
    · obtain ⟨n1, n2, n3⟩ := hR.nums r hr
      exact ⟨n1, num_neg n3, num_neg n2⟩
    · simp only [L2.wipe, List.foldl_cons, List.foldl_nil, List.set_cons_succ, List.set_cons_zero]
      wtm_at "ev_go"
      rw [Int.zero_sub, Int.zero_sub]
      exact h
    · wtm_at "ev_go"
      rw [Int.zero_sub, Int.zero_sub]
      intro d hd
      exact q d c R' _ (s1.trans (Same.new hd)) (s1.free hd) upd_same (Same.new hd _ _ hR1) (hRR.mono (Same.new hd))
end
end Ev

namespace Ev
open PySem PySem.Spec PyProof.Rows L2
local macro_rules | `(tactic| wtm_at "ev_ne") => `(tactic| first | assumption | exact Ne.symm (by assumption))
local macro_rules | `(tactic| wtm_at "ev_lk") => `(tactic| first | assumption | exact upd_same | (refine lk_new' (by assumption) ?_; wtm_at "ev_lk") | (refine lk_ne (by wtm_at "ev_ne") ?_; wtm_at "ev_lk") | (refine same_lk (by assumption) ?_; wtm_at "ev_lk"))
local macro_rules | `(tactic| wtm_at "ev_sm") => `(tactic| first | assumption | exact Same.refl _ | (refine same_new ?_ (by assumption); wtm_at "ev_sm") | (refine Same.trans ?_ (by assumption); wtm_at "ev_sm"))
local macro_rules | `(tactic| wtm_at "ev_no") => `(tactic| first | assumption | exact no_back (by assumption) | (refine no_new ?_ (by wtm_at "ev_ne"); wtm_at "ev_no"))
local macro_rules | `(tactic| wtm_at "ev_sq") => `(tactic| first | assumption | exact SqL.of (by wtm_at "ev_lk") | exact SqT.of (by wtm_at "ev_lk"))
local macro_rules | `(tactic| wtm_at "ev_step") => `(tactic| with_reducible first
  | refine rd_seq ?_ | refine rd_next ?_ | refine rd_ret ?_ | refine rd_retN ?_ | refine rd_if ?_ | refine rd_drop ?_ | refine rd_asg ?_ | refine rd_name ?_ | refine rd_gsub ?_ | refine rd_gnil ?_ | refine rd_gcons ?_
  | refine rd_c ?_ | refine rd_op ?_ | refine rd_un ?_ | refine rd_rI0 ?_ | refine rd_rU ?_ | refine rd_tup ?_ | refine rd_lst ?_ | refine rd_nil ?_ | refine rd_cons ?_ | refine rd_cb ?_ | refine rd_call ?_ | refine rd_sl ?_ | refine rd_no ?_ | refine rd_part ?_
  | refine rd_test ?_ | refine rd_tB ?_ | refine rd_not ?_ | refine rd_and ?_ | refine rd_or ?_ | refine rd_notV ?_ | refine rd_andV ?_ | refine rd_orV ?_ | refine rd_ifE ?_ | refine rd_bl ?_ | refine rd_ex ?_
  | refine rd_rng1 ?_ | refine rd_overL ?_ | refine rd_overT ?_ | refine rd_forA ?_ | refine rd_forB ?_ | refine rd_forC ?_ | refine rd_lcA ?_ | refine rd_lcB ?_ | refine rd_lcC ?_ | refine rd_bm ?_ | refine rd_mkv ?_ | refine rd_xv ?_
  | refine rd_T ?_ | refine rd_F ?_ | refine rd_True ?_ | refine rd_False ?_ | refine rd_int ?_ | refine rd_intB ?_ | refine rd_one ?_ | refine rd_two ?_)
local macro_rules | `(tactic| wtm_at "ev_cond") => `(tactic| first | assumption | exact (show (0 : Int) < _ by decide) | exact (show (0 : Int) < _ by omega) | exact Or.inl ⟨by decide, by decide⟩ | exact Or.inr ⟨by decide, by decide⟩ | exact pow_cond (by decide) (by decide) (by first | decide | omega) (by first | decide | omega) | exact wide_div (b := 2000) (by first | assumption | decide | omega) (by first | decide | omega) (by decide) (by decide))
local macro_rules | `(tactic| wtm_at "ev_side") => `(tactic| first
  | ((with_reducible apply rd_var); exact rfl)
  | ((with_reducible apply rd_ixL); (wtm_at "ev_sq"); exact rfl)
  | ((with_reducible apply rd_ixT); (wtm_at "ev_sq"); exact rfl)
  | ((with_reducible apply rd_eq); exact rfl)
  | ((with_reducible apply rd_ne); exact rfl)
  | ((with_reducible apply rd_setL); (wtm_at "ev_lk"); exact rfl)
  | ((with_reducible apply rd_gtup); (wtm_at "ev_sq"); exact rfl)
  | ((with_reducible apply rd_len); (wtm_at "ev_sq"))
  | ((with_reducible apply rd_lenT); (wtm_at "ev_sq"))
  | ((with_reducible apply rd_rg); (first | decide | omega); (first | decide | omega))
  | ((with_reducible apply rd_atL); (wtm_at "ev_sq"))
  | ((with_reducible apply rd_atT); (wtm_at "ev_sq"))
  | ((with_reducible apply rd_tyL); (wtm_at "ev_sq"))
  | ((with_reducible apply rd_cat); (wtm_at "ev_lk"); (wtm_at "ev_lk"); exact Nat.le_of_ble_eq_true rfl)
  | ((with_reducible apply rd_size); exact Nat.le_of_ble_eq_true rfl)
  | ((with_reducible apply rd_rI); wtm_at "ev_cond"))
local macro_rules | `(tactic| wtm_at "ev_rd") => `(tactic| repeat (first | wtm_at "ev_step" | wtm_at "ev_side"))
local macro_rules | `(tactic| wtm_at "ev_go") => `(tactic| ((try simp only [L2.start, List.map_cons, List.map_nil, List.length_cons, List.length_nil, Nat.reduceAdd, Nat.reduceSub, List.replicate_succ, List.replicate_zero, List.cons_append, List.nil_append]); wtm_at "ev_rd"; (try simp only [List.set_cons_zero, List.set_cons_succ, upd_upd])))
local macro_rules | `(tactic| wtm_at "ev_step") => `(tactic| with_reducible first | refine rd_par ?_ | refine rd_par2 ?_ | refine rd_forD ?_)
local macro_rules | `(tactic| wtm_at "ev_side") => `(tactic| ((with_reducible apply rd_enumL); (wtm_at "ev_sq")))
local macro_rules | `(tactic| wtm_at "ev_cond") => `(tactic| exact Num.mul (by assumption) (by assumption))
local macro_rules | `(tactic| wtm_at "ev_step") => `(tactic| with_reducible first | refine rd_fld ?_ | refine rd_sfld ?_ | refine rd_tmko ?_ | refine rd_meth0 ?_)
local macro_rules | `(tactic| wtm_at "ev_step") => `(tactic| with_reducible first | refine rd_make ?_)
def scR (f s : Int) (r : Int × Int × Int) : Int × Int × Int := (r.1, f * r.2.1 + s * r.1, f * r.2.2 + s * r.1)
def Tiny (i : Int) : Prop := i.natAbs < 10 ^ 9
theorem num_sc {f s x y : Int} (h1 : Tiny f) (h2 : Tiny s) (h3 : Tiny x) (h4 : Tiny y) : Num (f * x + s * y) := by
  have a : (f * x).natAbs < 10 ^ 9 * 10 ^ 9 := by
    rw [Int.natAbs_mul]
    exact Nat.mul_lt_mul'' h1 h3
  have b : (s * y).natAbs < 10 ^ 9 * 10 ^ 9 := by
    rw [Int.natAbs_mul]
    exact Nat.mul_lt_mul'' h2 h4
  have c := Int.natAbs_add_le (f * x) (s * y)
  have e : (10 : Nat) ^ 9 * 10 ^ 9 + 10 ^ 9 * 10 ^ 9 < 2 ^ 1000 := by decide +kernel
  exact Nat.lt_of_le_of_lt c (Nat.lt_trans (Nat.add_lt_add a b) e)
theorem fine_sc {f s : Int} {rs : List (Int × Int × Int)} (hf : 1 ≤ f) (h : Fine rs) : Fine (rs.map (scR f s)) := fun j r e => by
  rw [List.getElem?_map] at e
  cases e1 : rs[j]? with
  | none =>
    rw [e1] at e
    cases e
  | some r' =>
    rw [e1] at e
    cases e
    have := h j r' e1
    unfold okR at this ⊢
    obtain ⟨a, b⟩ := Bool.and_eq_true_iff.mp this
    have b' := of_decide_eq_true b
    have := Int.mul_le_mul_of_nonneg_left b' (show 0 ≤ f by omega)
    show (decide (1 ≤ r'.1) && decide (f * r'.2.1 + s * r'.1 ≤ f * r'.2.2 + s * r'.1)) = true
    rw [a, decide_eq_true (by omega)]
    rfl
def spScaled (C cN : Addr) : Sp := fun vs H Q E => ∃ (a : Addr) (f s lo hi : Int) (R : List V) (rs : List (Int × Int × Int)), vs = [.ref a, .int f, .int s] ∧ BookAt C H a lo hi R ∧ RlR H R rs ∧ R.length ≤ 1000 ∧ lo ≤ hi ∧ Fine rs ∧
  (f < 1 → ∀ (d : Addr) (H' : Hp), Same H H' → H' d = some (.xd [(("value" : Str), .int f)]) → E (.ref cN) (some d) H') ∧
  (1 ≤ f → Tiny f ∧ Tiny s ∧ Tiny lo ∧ Tiny hi ∧ Small rs ∧ ∀ (b : Addr) (R' : List V) (H' : Hp), Same H H' → H b = none → BookAt C H' b (f * lo + s) (f * hi + s) R' → RlR H' R' (rs.map (scR f s)) → Q (.ref b) H')
section
variable {P : Program} {w : World} {K : PySem.W.Frag} {mg : Str → Option Value} {base : Heap} {fI cD cR cB fB fN cN : Addr}
theorem ok_scaled {f : Addr} {fd fdN fdI : FuncData} (F : Fun K "scaled" "Book.scaled" s_Book_scaled f fd) (T : TxB K mg fI cD cR cB fB fN) (xN : ExT K mg "InvalidNumber" cN fI) (GI : FnOk P w K mg base CX0 1 fI fdI ["self", "value"] (spInit K)) (bI : Binds K fdI ["self", "value"] [])
    (GN : FnOk P w K mg base (L2.CX P w) 4 fN fdN ["self", "low", "high", "rules"] (spBook cB cD cR)) (bN : Binds K fdN ["self", "low", "high", "rules"] []) : FnOk P w K mg base (L2.CX P w) 6 f fd ["self", "factor", "shift"] (spScaled cB cN) := by
  refine F.okX sc_Book_scaled (fun vs H Q E h => ?_) (fun cdv A outer s H vs Q E hr h => ?_)
  · obtain ⟨a, f, s, lo, hi, R, rs, rfl, _⟩ := h
    rfl
  · obtain ⟨a, f, s, lo, hi, R, rs, rfl, bk, hR, hle, lohi, fine, k1, k2⟩ := h
    obtain ⟨dx, l, fs, ha, hl, l1, l2, l3, l4, l5⟩ := id bk
    refine ⟨_, (pss_cons (ps_if (pt_cmpR op_lt (pv 1) pe_int (nomark _)) 
        (pss_one (ps_raise rfl (takes_of rfl rfl rfl rfl) (pmk_oex xN.c xN.i xN.t GI (hr.mono (by decide)) bI .nil pass0 (by rfl) xN.g (pa_cons (pv 1) pa_nil)))) pss_nil)
      (pss_cons (ps_set (i := 3) sc_Book_scaled.nd rfl (Or.inl rfl) (pe_lst pa_nil))
      (pss_cons (ps_for (passes_of rfl) rfl (pi_list (pe_fld (pv 0) rfl)) (pg_tup rfl (pgs_cons (pg_name (i := 4) sc_Book_scaled.nd rfl (Or.inl rfl)) (pgs_cons (pg_name (i := 5) sc_Book_scaled.nd rfl (Or.inl rfl)) (pgs_cons (pg_name (i := 6) sc_Book_scaled.nd rfl (Or.inl rfl)) pgs_nil)))) 
        (pss_one (ps_expr (pe_bm PySem.F.plainAttrs_list PySem.F.slot_list_append PySem.F.type_list_append mt_append (pv 3) (pa_cons (pe_tup (pa_cons (pv 4) (pa_cons (pe_op op_add (pe_op op_mulW (pv 1) (pv 5)) (pe_op op_mulW (pv 2) (pv 4))) (pa_cons (pe_op op_add (pe_op op_mulW (pv 1) (pv 6)) (pe_op op_mulW (pv 2) (pv 4))) pa_nil)))) pa_nil)))))
      (pss_one (ps_ret (pe_make T.mB2 GN hr (by rfl) T.gB bN .nil L2.passL (pa_cons (pe_op op_add (pe_op op_mulW (pv 1) (pe_fld (pv 0) rfl)) (pv 2)) (pa_cons (pe_op op_add (pe_op op_mulW (pv 1) (pe_fld (pv 0) rfl)) (pv 2)) (pa_cons (pv 3) pa_nil))))))))), ?_⟩
    wtm_at "ev_go"
    refine rd_ite (fun hf => ?_) (fun hf => ?_)
    · wtm_at "ev_go"
      exact rd_mko xN (fun d H' s e => k1 hf d H' s e)
    · obtain ⟨tf, ts, tl, th, sm, q⟩ := k2 (by omega)
      have num_f : Num f := Nat.lt_trans tf (by decide +kernel)
      have num_s : Num s := Nat.lt_trans ts (by decide +kernel)
      have num_l : Num lo := Nat.lt_trans tl (by decide +kernel)
      have num_h : Num hi := Nat.lt_trans th (by decide +kernel)
      wtm_at "ev_go"
      intro c hc
      wtm_at "ev_go"
      have s0 : Same H (upd H c (.lst [])) := Same.new hc
      refine rd_fldA (s0 _ _ ha) T.cls T.n3 l3 ?_
      wtm_at "ev_go"
      refine rd_forL (xs := R) (fun i σ' H' => ∃ (x4 x5 x6 : Option V) (acc : List V), σ' = [some (.ref a), some (.int f), some (.int s), some (.ref c), x4, x5, x6] ∧ Same H H' ∧ H' c = some (.lst acc) ∧ RlR H' acc ((rs.take i).map (scR f s))) ⟨_, _, _, [], rfl, s0, upd_same, rfl, fun i v e => by simp at e⟩
        (fun i σ' H' _ h => by obtain ⟨_, _, _, _, _, z, _⟩ := h; exact SqL.of (z _ _ hl)) ?_ ?_
      · rintro i x σ' H' hx ⟨x4, x5, x6, acc, rfl, sm1, hacc, hRa⟩
        obtain ⟨b, r, rfl, hr', hb, n1, n2, n3⟩ := hR.2 i x hx
        have hrm := List.mem_of_getElem? hr'
        obtain ⟨t1, t2, t3⟩ := sm r hrm
        have hb' := sm1 _ _ hb
        wtm_at "ev_go"
        intro p hp
        wtm_at "ev_go"
        have npc : c ≠ p := ne_of_none hacc hp
        have hlen : acc.length ≤ 1000 := by
          rw [hRa.1, List.length_map, List.length_take]
          have := hR.1
          omega
        refine rd_append (lk_ne npc hacc) (by omega) ?_
        wtm_at "ev_go"
        refine ⟨_, _, _, acc ++ [.ref p], rfl, fun d o z => ?_, upd_same, ?_⟩
        · have ncd : d ≠ c := ne_of_none z hc
          have npd : d ≠ p := ne_of_none (sm1 _ _ z) hp
          rw [upd_ne ncd, upd_ne npd]
          exact sm1 _ _ z
        · have e : (rs.take (i + 1)).map (scR f s) = (rs.take i).map (scR f s) ++ [scR f s r] := by
            rw [List.take_add_one, hr']
            simp
          rw [e]
          exact ((hRa.mono (Same.new hp)).add upd_same n1 (num_sc tf ts t2 t1) (num_sc tf ts t3 t1)).put (lk_ne npc hacc)
      · rintro σ' H1 ⟨x4, x5, x6, acc, rfl, sm1, hacc, hRa⟩
        rw [hR.1, List.take_length] at hRa
        wtm_at "ev_go"
        refine rd_fldA (sm1 _ _ ha) T.cls T.n1 l1 ?_
        wtm_at "ev_go"
        refine rd_fldA (sm1 _ _ ha) T.cls T.n2 l2 ?_
        wtm_at "ev_go"
        intro x dx' hx hdx ne
        have sN : Same H1 (upd (upd H1 dx' (.own x)) x (.ins cB dx' [])) := (Same.new hdx).trans (Same.new (by rw [upd_ne (Ne.symm ne)]; exact hx))
        have one : Tiny 1 := (by decide : (1 : Nat) < 10 ^ 9)
        have nlo : Num (f * lo + s) := by
          have := num_sc tf ts tl one
          rwa [Int.mul_one] at this
        have nhi : Num (f * hi + s) := by
          have := num_sc tf ts th one
          rwa [Int.mul_one] at this
        have ord : f * lo + s ≤ f * hi + s := by
          have := Int.mul_le_mul_of_nonneg_left lohi (show 0 ≤ f by omega)
          omega
        refine ⟨x, dx', c, f * lo + s, f * hi + s, acc, rs.map (scR f s), rfl, upd_same, sN _ _ hacc, hRa.mono sN, by rw [hRa.1, List.length_map, ← hR.1]; exact hle, nlo, nhi, fun h => absurd h (by omega), fun _ i d H' bad _ _ => ?_, fun _ _ H' fr bk' => ⟨rfl, ?_⟩⟩
        · obtain ⟨r, e, b, _⟩ := bad
          rw [fine_sc (by omega) fine _ _ e] at b
          cases b
        · have sX : Same H1 H' := fun b o z => fr b o (sN b o z) (ne_of_none z hx)
          exact q x acc H' (sm1.trans sX) (sm1.free hx) bk' (hRa.mono sX)
end
end Ev

namespace Ev
open PySem PySem.Spec PyProof.Rows L2
local macro_rules | `(tactic| wtm_at "ev_ne") => `(tactic| first | assumption | exact Ne.symm (by assumption))
local macro_rules | `(tactic| wtm_at "ev_lk") => `(tactic| first | assumption | exact upd_same | (refine lk_new' (by assumption) ?_; wtm_at "ev_lk") | (refine lk_ne (by wtm_at "ev_ne") ?_; wtm_at "ev_lk") | (refine same_lk (by assumption) ?_; wtm_at "ev_lk"))
local macro_rules | `(tactic| wtm_at "ev_sm") => `(tactic| first | assumption | exact Same.refl _ | (refine same_new ?_ (by assumption); wtm_at "ev_sm") | (refine Same.trans ?_ (by assumption); wtm_at "ev_sm"))
local macro_rules | `(tactic| wtm_at "ev_no") => `(tactic| first | assumption | exact no_back (by assumption) | (refine no_new ?_ (by wtm_at "ev_ne"); wtm_at "ev_no"))
local macro_rules | `(tactic| wtm_at "ev_sq") => `(tactic| first | assumption | exact SqL.of (by wtm_at "ev_lk") | exact SqT.of (by wtm_at "ev_lk"))
local macro_rules | `(tactic| wtm_at "ev_step") => `(tactic| with_reducible first
  | refine rd_seq ?_ | refine rd_next ?_ | refine rd_ret ?_ | refine rd_retN ?_ | refine rd_if ?_ | refine rd_drop ?_ | refine rd_asg ?_ | refine rd_name ?_ | refine rd_gsub ?_ | refine rd_gnil ?_ | refine rd_gcons ?_
  | refine rd_c ?_ | refine rd_op ?_ | refine rd_un ?_ | refine rd_rI0 ?_ | refine rd_rU ?_ | refine rd_tup ?_ | refine rd_lst ?_ | refine rd_nil ?_ | refine rd_cons ?_ | refine rd_cb ?_ | refine rd_call ?_ | refine rd_sl ?_ | refine rd_no ?_ | refine rd_part ?_
  | refine rd_test ?_ | refine rd_tB ?_ | refine rd_not ?_ | refine rd_and ?_ | refine rd_or ?_ | refine rd_notV ?_ | refine rd_andV ?_ | refine rd_orV ?_ | refine rd_ifE ?_ | refine rd_bl ?_ | refine rd_ex ?_
  | refine rd_rng1 ?_ | refine rd_overL ?_ | refine rd_overT ?_ | refine rd_forA ?_ | refine rd_forB ?_ | refine rd_forC ?_ | refine rd_lcA ?_ | refine rd_lcB ?_ | refine rd_lcC ?_ | refine rd_bm ?_ | refine rd_mkv ?_ | refine rd_xv ?_
  | refine rd_T ?_ | refine rd_F ?_ | refine rd_True ?_ | refine rd_False ?_ | refine rd_int ?_ | refine rd_intB ?_ | refine rd_one ?_ | refine rd_two ?_)
local macro_rules | `(tactic| wtm_at "ev_cond") => `(tactic| first | assumption | exact (show (0 : Int) < _ by decide) | exact (show (0 : Int) < _ by omega) | exact Or.inl ⟨by decide, by decide⟩ | exact Or.inr ⟨by decide, by decide⟩ | exact pow_cond (by decide) (by decide) (by first | decide | omega) (by first | decide | omega) | exact wide_div (b := 2000) (by first | assumption | decide | omega) (by first | decide | omega) (by decide) (by decide))
local macro_rules | `(tactic| wtm_at "ev_side") => `(tactic| first
  | ((with_reducible apply rd_var); exact rfl)
  | ((with_reducible apply rd_ixL); (wtm_at "ev_sq"); exact rfl)
  | ((with_reducible apply rd_ixT); (wtm_at "ev_sq"); exact rfl)
  | ((with_reducible apply rd_eq); exact rfl)
  | ((with_reducible apply rd_ne); exact rfl)
  | ((with_reducible apply rd_setL); (wtm_at "ev_lk"); exact rfl)
  | ((with_reducible apply rd_gtup); (wtm_at "ev_sq"); exact rfl)
  | ((with_reducible apply rd_len); (wtm_at "ev_sq"))
  | ((with_reducible apply rd_lenT); (wtm_at "ev_sq"))
  | ((with_reducible apply rd_rg); (first | decide | omega); (first | decide | omega))
  | ((with_reducible apply rd_atL); (wtm_at "ev_sq"))
  | ((with_reducible apply rd_atT); (wtm_at "ev_sq"))
  | ((with_reducible apply rd_tyL); (wtm_at "ev_sq"))
  | ((with_reducible apply rd_cat); (wtm_at "ev_lk"); (wtm_at "ev_lk"); exact Nat.le_of_ble_eq_true rfl)
  | ((with_reducible apply rd_size); exact Nat.le_of_ble_eq_true rfl)
  | ((with_reducible apply rd_rI); wtm_at "ev_cond"))
local macro_rules | `(tactic| wtm_at "ev_rd") => `(tactic| repeat (first | wtm_at "ev_step" | wtm_at "ev_side"))
local macro_rules | `(tactic| wtm_at "ev_go") => `(tactic| ((try simp only [L2.start, List.map_cons, List.map_nil, List.length_cons, List.length_nil, Nat.reduceAdd, Nat.reduceSub, List.replicate_succ, List.replicate_zero, List.cons_append, List.nil_append]); wtm_at "ev_rd"; (try simp only [List.set_cons_zero, List.set_cons_succ, upd_upd])))
local macro_rules | `(tactic| wtm_at "ev_step") => `(tactic| with_reducible first | refine rd_par ?_ | refine rd_par2 ?_ | refine rd_forD ?_)
local macro_rules | `(tactic| wtm_at "ev_side") => `(tactic| ((with_reducible apply rd_enumL); (wtm_at "ev_sq")))
local macro_rules | `(tactic| wtm_at "ev_cond") => `(tactic| exact Num.mul (by assumption) (by assumption))
local macro_rules | `(tactic| wtm_at "ev_step") => `(tactic| with_reducible first | refine rd_fld ?_ | refine rd_sfld ?_ | refine rd_tmko ?_ | refine rd_meth0 ?_)
local macro_rules | `(tactic| wtm_at "ev_step") => `(tactic| with_reducible first | refine rd_make ?_)
/-! ### what a book tells of itself -/
def spLowOf (C : Addr) : Sp := fun vs H Q _ => ∃ (a : Addr) (lo hi : Int) (R : List V), vs = [.ref a] ∧ BookAt C H a lo hi R ∧ Q (.int lo) H
def spHighOf (C : Addr) : Sp := fun vs H Q _ => ∃ (a : Addr) (lo hi : Int) (R : List V), vs = [.ref a] ∧ BookAt C H a lo hi R ∧ Q (.int hi) H
def spRulesOf (C : Addr) : Sp := fun vs H Q _ => ∃ (a : Addr) (lo hi : Int) (R : List V), vs = [.ref a] ∧ BookAt C H a lo hi R ∧ ∀ p, H p = none → Q (.ref p) (upd H p (.lst R))
section
variable {P : Program} {w : World} {K : PySem.W.Frag} {mg : Str → Option Value} {base : Heap} {fI cD cR cB fB fN cN : Addr}
theorem ok_low {f : Addr} {fd : FuncData} (F : Fun K "low" "Book.low" s_Book_low f fd) (T : TxB K mg fI cD cR cB fB fN) : FnOk P w K mg base CX0 1 f fd ["self"] (spLowOf cB) := by
  refine F.ok sc_Book_low (fun vs H Q E h => ?_) (fun cdv A outer s H vs Q E hr h => ?_)
  · obtain ⟨a, lo, hi, R, rfl, _⟩ := h
    rfl
  · obtain ⟨a, lo, hi, R, rfl, ⟨dx, l, fs, ha, hl, l1, l2, l3, l4, l5⟩, q⟩ := h
    refine ⟨_, (pss_one (ps_ret (pe_fld (pv 0) rfl))), ?_⟩
    wtm_at "ev_go"
    exact rd_fldA ha T.cls T.n1 l1 q
theorem ok_high {f : Addr} {fd : FuncData} (F : Fun K "high" "Book.high" s_Book_high f fd) (T : TxB K mg fI cD cR cB fB fN) : FnOk P w K mg base CX0 1 f fd ["self"] (spHighOf cB) := by
  refine F.ok sc_Book_high (fun vs H Q E h => ?_) (fun cdv A outer s H vs Q E hr h => ?_)
  · obtain ⟨a, lo, hi, R, rfl, _⟩ := h
    rfl
  · obtain ⟨a, lo, hi, R, rfl, ⟨dx, l, fs, ha, hl, l1, l2, l3, l4, l5⟩, q⟩ := h
    refine ⟨_, (pss_one (ps_ret (pe_fld (pv 0) rfl))), ?_⟩
    wtm_at "ev_go"
    exact rd_fldA ha T.cls T.n2 l2 q
theorem ok_rules {f : Addr} {fd : FuncData} (F : Fun K "rules" "Book.rules" s_Book_rules f fd) (T : TxB K mg fI cD cR cB fB fN) : FnOk P w K mg base CX0 1 f fd ["self"] (spRulesOf cB) := by
  refine F.ok sc_Book_rules (fun vs H Q E h => ?_) (fun cdv A outer s H vs Q E hr h => ?_)
  · obtain ⟨a, lo, hi, R, rfl, _⟩ := h
    rfl
  · obtain ⟨a, lo, hi, R, rfl, ⟨dx, l, fs, ha, hl, l1, l2, l3, l4, l5⟩, q⟩ := h
    refine ⟨_, (pss_one (ps_ret (pe_callTy call_list_of (by rfl) T.b.n_list boot_list (pa_cons (pe_fld (pv 0) rfl) pa_nil)))), ?_⟩
    wtm_at "ev_go"
    refine rd_fldA ha T.cls T.n3 l3 ?_
    wtm_at "ev_go"
    exact q
end
end Ev

namespace Ev
open PySem PySem.Spec PyProof.Rows L2
local macro_rules | `(tactic| wtm_at "ev_ne") => `(tactic| first | assumption | exact Ne.symm (by assumption))
local macro_rules | `(tactic| wtm_at "ev_lk") => `(tactic| first | assumption | exact upd_same | (refine lk_new' (by assumption) ?_; wtm_at "ev_lk") | (refine lk_ne (by wtm_at "ev_ne") ?_; wtm_at "ev_lk") | (refine same_lk (by assumption) ?_; wtm_at "ev_lk"))
local macro_rules | `(tactic| wtm_at "ev_sm") => `(tactic| first | assumption | exact Same.refl _ | (refine same_new ?_ (by assumption); wtm_at "ev_sm") | (refine Same.trans ?_ (by assumption); wtm_at "ev_sm"))
local macro_rules | `(tactic| wtm_at "ev_no") => `(tactic| first | assumption | exact no_back (by assumption) | (refine no_new ?_ (by wtm_at "ev_ne"); wtm_at "ev_no"))
local macro_rules | `(tactic| wtm_at "ev_sq") => `(tactic| first | assumption | exact SqL.of (by wtm_at "ev_lk") | exact SqT.of (by wtm_at "ev_lk"))
local macro_rules | `(tactic| wtm_at "ev_step") => `(tactic| with_reducible first
  | refine rd_seq ?_ | refine rd_next ?_ | refine rd_ret ?_ | refine rd_retN ?_ | refine rd_if ?_ | refine rd_drop ?_ | refine rd_asg ?_ | refine rd_name ?_ | refine rd_gsub ?_ | refine rd_gnil ?_ | refine rd_gcons ?_
  | refine rd_c ?_ | refine rd_op ?_ | refine rd_un ?_ | refine rd_rI0 ?_ | refine rd_rU ?_ | refine rd_tup ?_ | refine rd_lst ?_ | refine rd_nil ?_ | refine rd_cons ?_ | refine rd_cb ?_ | refine rd_call ?_ | refine rd_sl ?_ | refine rd_no ?_ | refine rd_part ?_
  | refine rd_test ?_ | refine rd_tB ?_ | refine rd_not ?_ | refine rd_and ?_ | refine rd_or ?_ | refine rd_notV ?_ | refine rd_andV ?_ | refine rd_orV ?_ | refine rd_ifE ?_ | refine rd_bl ?_ | refine rd_ex ?_
  | refine rd_rng1 ?_ | refine rd_overL ?_ | refine rd_overT ?_ | refine rd_forA ?_ | refine rd_forB ?_ | refine rd_forC ?_ | refine rd_lcA ?_ | refine rd_lcB ?_ | refine rd_lcC ?_ | refine rd_bm ?_ | refine rd_mkv ?_ | refine rd_xv ?_
  | refine rd_T ?_ | refine rd_F ?_ | refine rd_True ?_ | refine rd_False ?_ | refine rd_int ?_ | refine rd_intB ?_ | refine rd_one ?_ | refine rd_two ?_)
local macro_rules | `(tactic| wtm_at "ev_cond") => `(tactic| first | assumption | exact (show (0 : Int) < _ by decide) | exact (show (0 : Int) < _ by omega) | exact Or.inl ⟨by decide, by decide⟩ | exact Or.inr ⟨by decide, by decide⟩ | exact pow_cond (by decide) (by decide) (by first | decide | omega) (by first | decide | omega) | exact wide_div (b := 2000) (by first | assumption | decide | omega) (by first | decide | omega) (by decide) (by decide))
local macro_rules | `(tactic| wtm_at "ev_side") => `(tactic| first
  | ((with_reducible apply rd_var); exact rfl)
  | ((with_reducible apply rd_ixL); (wtm_at "ev_sq"); exact rfl)
  | ((with_reducible apply rd_ixT); (wtm_at "ev_sq"); exact rfl)
  | ((with_reducible apply rd_eq); exact rfl)
  | ((with_reducible apply rd_ne); exact rfl)
  | ((with_reducible apply rd_setL); (wtm_at "ev_lk"); exact rfl)
  | ((with_reducible apply rd_gtup); (wtm_at "ev_sq"); exact rfl)
  | ((with_reducible apply rd_len); (wtm_at "ev_sq"))
  | ((with_reducible apply rd_lenT); (wtm_at "ev_sq"))
  | ((with_reducible apply rd_rg); (first | decide | omega); (first | decide | omega))
  | ((with_reducible apply rd_atL); (wtm_at "ev_sq"))
  | ((with_reducible apply rd_atT); (wtm_at "ev_sq"))
  | ((with_reducible apply rd_tyL); (wtm_at "ev_sq"))
  | ((with_reducible apply rd_cat); (wtm_at "ev_lk"); (wtm_at "ev_lk"); exact Nat.le_of_ble_eq_true rfl)
  | ((with_reducible apply rd_size); exact Nat.le_of_ble_eq_true rfl)
  | ((with_reducible apply rd_rI); wtm_at "ev_cond"))
local macro_rules | `(tactic| wtm_at "ev_rd") => `(tactic| repeat (first | wtm_at "ev_step" | wtm_at "ev_side"))
local macro_rules | `(tactic| wtm_at "ev_go") => `(tactic| ((try simp only [L2.start, List.map_cons, List.map_nil, List.length_cons, List.length_nil, Nat.reduceAdd, Nat.reduceSub, List.replicate_succ, List.replicate_zero, List.cons_append, List.nil_append]); wtm_at "ev_rd"; (try simp only [List.set_cons_zero, List.set_cons_succ, upd_upd])))
local macro_rules | `(tactic| wtm_at "ev_step") => `(tactic| with_reducible first | refine rd_par ?_ | refine rd_par2 ?_ | refine rd_forD ?_)
local macro_rules | `(tactic| wtm_at "ev_side") => `(tactic| ((with_reducible apply rd_enumL); (wtm_at "ev_sq")))
local macro_rules | `(tactic| wtm_at "ev_cond") => `(tactic| exact Num.mul (by assumption) (by assumption))
local macro_rules | `(tactic| wtm_at "ev_step") => `(tactic| with_reducible first | refine rd_fld ?_ | refine rd_sfld ?_ | refine rd_tmko ?_ | refine rd_meth0 ?_)
local macro_rules | `(tactic| wtm_at "ev_step") => `(tactic| with_reducible first | refine rd_make ?_)
/-- two books with the same numbers -/
def TwoB (C : Addr) (a b : Addr) (H : Hp) : Prop := ∃ (lo hi : Int) (L M : List V) (rs : List (Int × Int × Int)), BookAt C H a lo hi L ∧ BookAt C H b lo hi M ∧ RlR H L rs ∧ RlR H M rs
theorem line_all : ∀ rs : List (Int × Int × Int), PyData.canLayAll0 (rs.map lineD) = true ∧ PyData.depthAll (rs.map lineD) ≤ 1
  | [] => ⟨by simp only [List.map_nil, PyData.canLayAll0], by simp [PyData.depthAll]⟩
  | r :: rs => by
    obtain ⟨a, b⟩ := line_all rs
    have c : (lineD r).canLay0 = true := rfl
    have d : (lineD r).depth = 1 := rfl
    refine ⟨?_, ?_⟩
    · simp only [List.map_cons, PyData.canLayAll0, c, a, Bool.and_self]
    · simp only [List.map_cons, PyData.depthAll, d]
      omega
theorem lineD_ok (rs : List (Int × Int × Int)) : (PyData.list (rs.map lineD)).canLay0 = true ∧ SeqAt.shaped (PyData.list (rs.map lineD)) = true := by
  obtain ⟨a, b⟩ := line_all rs
  have h1 : (PyData.list (rs.map lineD)).canLay0 = true := by simp only [PyData.canLay0]; exact a
  refine ⟨h1, ?_⟩
  unfold SeqAt.shaped
  rw [h1, Bool.true_and, decide_eq_true_iff]
  simp only [PyData.depth]
  omega
section
variable {P : Program} {w : World} {K : PySem.W.Frag} {mg : Str → Option Value} {base : Heap} {fI cD cR cB fB fN cN : Addr}
theorem ok_eq {f : Addr} {fd : FuncData} (F : Fun K "__eq__" "Book.__eq__" s_Book_eq f fd) (T : TxB K mg fI cD cR cB fB fN) (kB : PySem.W.kitOne K (.ref cB) (.ref cB) = some true) (ty : ∀ (a dx : Addr) (fs : List (Str × V)) (H : Hp), H a = some (.ins cB dx fs) → TyX K H (.ref a) (.ref cB)) : FnOk P w K mg base CX0 1 f fd ["self", "other"] (spEq (TwoB cB)) := by
  refine F.ok sc_Book_eq (fun vs H Q E h => ?_) (fun cdv A outer s H vs Q E hr h => ?_)
  · obtain ⟨a, b, rfl, _⟩ := h
    rfl
  · obtain ⟨a, b, rfl, ⟨lo, hi, L, M, rs, ⟨dx, l, fs, ha, hl, l1, l2, l3, _⟩, ⟨dy, m, gs, hb, hm, m1, m2, m3, _⟩, hR, hS⟩, q⟩ := h
    refine ⟨_, (pss_cons (ps_if (pt_not (pt_val (pe_callB call_isi (by rfl) T.b.n_isinstance boot_isinstance (pa_cons (pv 1) (pa_cons (pe_glob (v := .ref _) (by rfl) T.gB rfl) pa_nil))))) 
        (pss_one (ps_ret pe_bl)) pss_nil)
      (pss_one (ps_ret (pe_and (pe_cmpR op_eq (pe_fld (pv 0) rfl) (pe_fld (pv 1) rfl) (nomark _)) (pe_and (pe_cmpR op_eq (pe_fld (pv 0) rfl) (pe_fld (pv 1) rfl) (nomark _)) (pe_one (pe_cmpR (op_eqD (hun64 hr)) (pe_fld (pv 0) rfl) (pe_fld (pv 1) rfl) (nomark _)))))))), ?_⟩
    wtm_at "ev_go"
    refine rd_isi (.own _) (ty _ _ _ _ hb) kB ?_
    wtm_at "ev_go"
    rw [if_neg (by decide : ¬ (!true) = true)]
    wtm_at "ev_go"
    refine rd_fldA ha T.cls T.n1 l1 ?_
    wtm_at "ev_go"
    refine rd_fldA hb T.cls T.n1 m1 ?_
    wtm_at "ev_go"
    rw [if_pos (by simp)]
    wtm_at "ev_go"
    refine rd_fldA ha T.cls T.n2 l2 ?_
    wtm_at "ev_go"
    refine rd_fldA hb T.cls T.n2 m2 ?_
    wtm_at "ev_go"
    rw [if_pos (by simp)]
    wtm_at "ev_go"
    refine rd_fldA ha T.cls T.n3 l3 ?_
    wtm_at "ev_go"
    refine rd_fldA hb T.cls T.n3 m3 ?_
    wtm_at "ev_go"
    obtain ⟨c1, c2⟩ := lineD_ok rs
    refine ⟨_, _, .lst (SqL.of hl) hR.all, .lst (SqL.of hm) hS.all, c2, c2, ?_⟩
    rw [SeqAt.eqv_refl _ c1]
    exact q H fun _ _ z => z
end
end Ev

namespace Ev
open PySem PySem.Spec PyProof.Rows L2
local macro_rules | `(tactic| wtm_at "ev_ne") => `(tactic| first | assumption | exact Ne.symm (by assumption))
local macro_rules | `(tactic| wtm_at "ev_lk") => `(tactic| first | assumption | exact upd_same | (refine lk_new' (by assumption) ?_; wtm_at "ev_lk") | (refine lk_ne (by wtm_at "ev_ne") ?_; wtm_at "ev_lk") | (refine same_lk (by assumption) ?_; wtm_at "ev_lk"))
local macro_rules | `(tactic| wtm_at "ev_sm") => `(tactic| first | assumption | exact Same.refl _ | (refine same_new ?_ (by assumption); wtm_at "ev_sm") | (refine Same.trans ?_ (by assumption); wtm_at "ev_sm"))
local macro_rules | `(tactic| wtm_at "ev_no") => `(tactic| first | assumption | exact no_back (by assumption) | (refine no_new ?_ (by wtm_at "ev_ne"); wtm_at "ev_no"))
local macro_rules | `(tactic| wtm_at "ev_sq") => `(tactic| first | assumption | exact SqL.of (by wtm_at "ev_lk") | exact SqT.of (by wtm_at "ev_lk"))
local macro_rules | `(tactic| wtm_at "ev_step") => `(tactic| with_reducible first
  | refine rd_seq ?_ | refine rd_next ?_ | refine rd_ret ?_ | refine rd_retN ?_ | refine rd_if ?_ | refine rd_drop ?_ | refine rd_asg ?_ | refine rd_name ?_ | refine rd_gsub ?_ | refine rd_gnil ?_ | refine rd_gcons ?_
  | refine rd_c ?_ | refine rd_op ?_ | refine rd_un ?_ | refine rd_rI0 ?_ | refine rd_rU ?_ | refine rd_tup ?_ | refine rd_lst ?_ | refine rd_nil ?_ | refine rd_cons ?_ | refine rd_cb ?_ | refine rd_call ?_ | refine rd_sl ?_ | refine rd_no ?_ | refine rd_part ?_
  | refine rd_test ?_ | refine rd_tB ?_ | refine rd_not ?_ | refine rd_and ?_ | refine rd_or ?_ | refine rd_notV ?_ | refine rd_andV ?_ | refine rd_orV ?_ | refine rd_ifE ?_ | refine rd_bl ?_ | refine rd_ex ?_
  | refine rd_rng1 ?_ | refine rd_overL ?_ | refine rd_overT ?_ | refine rd_forA ?_ | refine rd_forB ?_ | refine rd_forC ?_ | refine rd_lcA ?_ | refine rd_lcB ?_ | refine rd_lcC ?_ | refine rd_bm ?_ | refine rd_mkv ?_ | refine rd_xv ?_
  | refine rd_T ?_ | refine rd_F ?_ | refine rd_True ?_ | refine rd_False ?_ | refine rd_int ?_ | refine rd_intB ?_ | refine rd_one ?_ | refine rd_two ?_)
local macro_rules | `(tactic| wtm_at "ev_cond") => `(tactic| first | assumption | exact (show (0 : Int) < _ by decide) | exact (show (0 : Int) < _ by omega) | exact Or.inl ⟨by decide, by decide⟩ | exact Or.inr ⟨by decide, by decide⟩ | exact pow_cond (by decide) (by decide) (by first | decide | omega) (by first | decide | omega) | exact wide_div (b := 2000) (by first | assumption | decide | omega) (by first | decide | omega) (by decide) (by decide))
local macro_rules | `(tactic| wtm_at "ev_side") => `(tactic| first
  | ((with_reducible apply rd_var); exact rfl)
  | ((with_reducible apply rd_ixL); (wtm_at "ev_sq"); exact rfl)
  | ((with_reducible apply rd_ixT); (wtm_at "ev_sq"); exact rfl)
  | ((with_reducible apply rd_eq); exact rfl)
  | ((with_reducible apply rd_ne); exact rfl)
  | ((with_reducible apply rd_setL); (wtm_at "ev_lk"); exact rfl)
  | ((with_reducible apply rd_gtup); (wtm_at "ev_sq"); exact rfl)
  | ((with_reducible apply rd_len); (wtm_at "ev_sq"))
  | ((with_reducible apply rd_lenT); (wtm_at "ev_sq"))
  | ((with_reducible apply rd_rg); (first | decide | omega); (first | decide | omega))
  | ((with_reducible apply rd_atL); (wtm_at "ev_sq"))
  | ((with_reducible apply rd_atT); (wtm_at "ev_sq"))
  | ((with_reducible apply rd_tyL); (wtm_at "ev_sq"))
  | ((with_reducible apply rd_cat); (wtm_at "ev_lk"); (wtm_at "ev_lk"); exact Nat.le_of_ble_eq_true rfl)
  | ((with_reducible apply rd_size); exact Nat.le_of_ble_eq_true rfl)
  | ((with_reducible apply rd_rI); wtm_at "ev_cond"))
local macro_rules | `(tactic| wtm_at "ev_rd") => `(tactic| repeat (first | wtm_at "ev_step" | wtm_at "ev_side"))
local macro_rules | `(tactic| wtm_at "ev_go") => `(tactic| ((try simp only [L2.start, List.map_cons, List.map_nil, List.length_cons, List.length_nil, Nat.reduceAdd, Nat.reduceSub, List.replicate_succ, List.replicate_zero, List.cons_append, List.nil_append]); wtm_at "ev_rd"; (try simp only [List.set_cons_zero, List.set_cons_succ, upd_upd])))
local macro_rules | `(tactic| wtm_at "ev_step") => `(tactic| with_reducible first | refine rd_par ?_ | refine rd_par2 ?_ | refine rd_forD ?_)
local macro_rules | `(tactic| wtm_at "ev_side") => `(tactic| ((with_reducible apply rd_enumL); (wtm_at "ev_sq")))
local macro_rules | `(tactic| wtm_at "ev_cond") => `(tactic| exact Num.mul (by assumption) (by assumption))
local macro_rules | `(tactic| wtm_at "ev_step") => `(tactic| with_reducible first | refine rd_fld ?_ | refine rd_sfld ?_ | refine rd_tmko ?_ | refine rd_meth0 ?_)
local macro_rules | `(tactic| wtm_at "ev_step") => `(tactic| with_reducible first | refine rd_make ?_)
section
variable {σ : L2.St} {H : Hp}
theorem rd_txs {K : PySem.W.Frag} {a : Addr} {cls : Value} {d : Option Addr} {f : Str} {te : TE} {Q : VK} (h : te σ H fun x H1 => x = .ref a ∧ ∃ (C : Addr) (fs : List (Str × V)) (v : V), Held K H1 cls d C fs ∧ PySem.W.findIn K (.ref C) f = some none ∧ fs.lookup f = some v ∧ Q v H1) : tXs K a cls d f te σ H Q := h
theorem rd_methK {C : Addr} {m : Str} {n : Nat} {sp : Sp} {gV : List V → List V → List V} {E : XK} {ta : TE} {tk : TA} {Q : VK} (h : ta σ H fun x H1 => ∃ (a dx : Addr) (fs : List (Str × V)), x = .ref a ∧ H1 a = some (.ins C dx fs) ∧ fs.lookup m = none ∧ tk σ H1 fun zs H2 => zs.length = n ∧ sp (gV [.ref a] zs) H2 Q E) : tMethK C m n sp gV E ta tk σ H Q := h
end
local macro_rules | `(tactic| wtm_at "ev_step") => `(tactic| with_reducible first | refine rd_methK ?_ | refine rd_txs ?_)
theorem len6 {α : Type} : ∀ {l : List α}, l.length = 6 → ∃ a b c d e f, l = [a, b, c, d, e, f]
  | [a, b, c, d, e, f], _ => ⟨a, b, c, d, e, f, rfl⟩
def gS2 {α : Type} : List α → List α → List α
  | [a], [x, y] => [a, y, x]
  | _, _ => []
structure TxV (K : PySem.W.Frag) (mg : Str → Option Value) (fI cN cS c_InvalidDays c_InvalidRule c_InvalidLength c_NoRows : Addr) : Prop where
  xN : ExT K mg "InvalidNumber" cN fI
  gS : mg "SpanError" = some (.ref cS)
  g_InvalidDays : mg "InvalidDays" = some (.ref c_InvalidDays)
  g_InvalidRule : mg "InvalidRule" = some (.ref c_InvalidRule)
  g_InvalidLength : mg "InvalidLength" = some (.ref c_InvalidLength)
  g_NoRows : mg "NoRows" = some (.ref c_NoRows)
  em : PySem.W.exmOne K (.ref cN) (.ref cS) = some true
  n4 : PySem.W.kitAny K (.ref cN) [.ref c_InvalidDays, .ref c_InvalidRule, .ref c_InvalidLength, .ref c_NoRows] = some false
  nN : PySem.W.kitOne K (.ref cN) (.ref cN) = some true
def spCaught (C : Addr) : Sp := fun vs H Q _ => ∃ (a : Addr) (f s lo hi : Int) (R : List V) (rs : List (Int × Int × Int)), vs = [.ref a, .int f, .int s] ∧ BookAt C H a lo hi R ∧ RlR H R rs ∧ R.length ≤ 1000 ∧ lo ≤ hi ∧ Fine rs ∧
  (f < 1 → ∀ (p : Addr) (H' : Hp), Same H H' → H p = none → H' p = some (.lst [.int f]) → Q (.ref p) H') ∧
  (1 ≤ f → Tiny f ∧ Tiny s ∧ Tiny lo ∧ Tiny hi ∧ Small rs ∧ ∀ (b : Addr) (R' : List V) (H' : Hp), Same H H' → H b = none → BookAt C H' b (f * lo + s) (f * hi + s) R' → RlR H' R' (rs.map (scR f s)) → Q (.ref b) H')
section
variable {P : Program} {w : World} {K : PySem.W.Frag} {mg : Str → Option Value} {base : Heap} {fI cD cR cB fB fN cN cS c_InvalidDays c_InvalidRule c_InvalidLength c_NoRows fS : Addr}
theorem ok_caught {f : Addr} {fd fdS : FuncData} (F : Fun K "_law_caught" "_law_caught" s_caught f fd) (T : TxB K mg fI cD cR cB fB fN) (Y4 : TxV K mg fI cN cS c_InvalidDays c_InvalidRule c_InvalidLength c_NoRows)
    (GS : FnOk P w K mg base (L2.CX P w) 6 fS fdS ["self", "factor", "shift"] (spScaled cB cN)) (mS : Meth K cB "scaled" fS) (kS : KBn K fdS ["self", "factor", "shift"] 1 ["shift", "factor"] gS2 gS2) : FnOk P w K mg base CX0 7 f fd ["made", "often", "more"] (spCaught cB) := by
  refine F.ok sc_caught (fun vs H Q E h => ?_) (fun cdv A outer s H vs Q E hr h => ?_)
  · obtain ⟨a, f, s, lo, hi, R, rs, rfl, _⟩ := h
    rfl
  · obtain ⟨a, f, s, lo, hi, R, rs, rfl, bk, hR, hle, lohi, fine, k1, k2⟩ := h
    obtain ⟨dx, l, fs, ha, hl, l1, l2, l3, l4, l5⟩ := id bk
    refine ⟨_, (pss_cons (ps_try_as (i := 4) (Wout := fun _ _ _ _ => False) rfl rfl sc_caught.nd rfl rfl ⟨rfl, by decide, Or.inl Y4.gS⟩ takes0 (fun W pn xe tk _ => (pss_one (ps_set (i := 3) sc_caught.nd rfl (Or.inl rfl) (pe_methKw (pv 0) T.cls mS GS hr kS (Ev.passL tk rfl) (pk_cons (pv 2) (pk_cons (pv 1) pk_nil)))))) (fun a oe cls d pn hz hf => (pss_cons (ps_set (i := 5) sc_caught.nd rfl (Or.inl rfl) (pe_or (pe_callB (show CallR _ _ (rIsST K a cls d) from call_isST hz hf) (by rfl) T.b.n_isinstance boot_isinstance (pa_cons (pv 4) (pa_cons (pe_tup (pa_cons (pe_glob (v := .ref _) (by rfl) Y4.g_InvalidDays rfl) (pa_cons (pe_glob (v := .ref _) (by rfl) Y4.g_InvalidRule rfl) (pa_cons (pe_glob (v := .ref _) (by rfl) Y4.g_InvalidLength rfl) (pa_cons (pe_glob (v := .ref _) (by rfl) Y4.g_NoRows rfl) pa_nil))))) pa_nil))) (pe_one (pe_not (pe_callB (show CallR _ _ (rIsS K a cls d) from call_isS hz hf) (by rfl) T.b.n_isinstance boot_isinstance (pa_cons (pv 4) (pa_cons (pe_glob (v := .ref _) (by rfl) Y4.xN.g rfl) pa_nil)))))))
        (pss_one (ps_set (i := 3) sc_caught.nd rfl (Or.inl rfl) (pe_lst (pa_cons (pe_ifExp (pt_val (pv 5)) pe_str (show PE _ _ (tXs K a cls d _ _) from pe_xs hz hf (pv 4))) pa_nil)))))))
      (pss_one (ps_ret (pv 3)))), ?_⟩
    wtm_at "ev_go"
    generalize hE : WL _ 6 = E0
    have su : ∀ (d : Addr) (H' : Hp), f < 1 → Same H H' → H' d = some (.xd [(("value" : Str), V.int f)]) → E0 (.ref cN) (some d) H' := by
      intro d H' hf sm hd
      rw [← hE]
      intro σ' hl'
      obtain ⟨y0, y1, y2, y3, y4, y5, rfl⟩ := len6 hl'
      refine ⟨true, Y4.em, fun _ e he => ?_, fun z => nomatch z⟩
      simp only [List.set_cons_zero, List.set_cons_succ]
      have held : ∀ H1, Same H' H1 → Held K H1 (.ref cN) (some d) cN [(("value" : Str), V.int f)] := fun H1 s1 => ⟨rfl, ⟨d, rfl, s1 _ _ hd⟩, Y4.xN.v⟩
      wtm_at "ev_go"
      intro tp htp
      wtm_at "ev_go"
      have s1 := Same.new (o := .tup [V.ref c_InvalidDays, .ref c_InvalidRule, .ref c_InvalidLength, .ref c_NoRows]) htp
      refine ⟨cN, tp, _, _, _, false, rfl, upd_same, .cons (.own _) (.cons (.own _) (.cons (.own _) (.cons (.own _) .nil))), held _ s1, Y4.n4, ?_⟩
      wtm_at "ev_go"
      refine ⟨cN, _, _, _, true, rfl, .own _, held _ s1, Y4.nN, ?_⟩
      wtm_at "ev_go"
      rw [if_neg (by decide : ¬ (!true) = true)]
      wtm_at "ev_go"
      refine ⟨trivial, cN, _, V.int f, held _ s1, Y4.xN.n, by simp [List.lookup], ?_⟩
      wtm_at "ev_go"
      intro p hp
      wtm_at "ev_go"
      exact k1 hf p _ ((sm.trans s1).trans (Same.new hp)) ((sm.trans s1).free hp) upd_same
    clear hE
    refine ⟨a, dx, fs, rfl, ha, l5, ?_⟩
    wtm_at "ev_go"
    refine ⟨rfl, a, f, s, lo, hi, R, rs, rfl, bk, hR, hle, lohi, fine, fun hf d H' sm e => su d H' hf sm e, fun hf => ?_⟩
    obtain ⟨t1, t2, t3, t4, t5, q⟩ := k2 hf
    refine ⟨t1, t2, t3, t4, t5, fun b R' H' s1 nb bk' r' => ?_⟩
    wtm_at "ev_go"
    exact q b R' H' s1 nb bk' r'
end
end Ev

namespace Ev
open PySem PySem.Spec PyProof.Rows L2
local macro_rules | `(tactic| wtm_at "ev_ne") => `(tactic| first | assumption | exact Ne.symm (by assumption))
local macro_rules | `(tactic| wtm_at "ev_lk") => `(tactic| first | assumption | exact upd_same | (refine lk_new' (by assumption) ?_; wtm_at "ev_lk") | (refine lk_ne (by wtm_at "ev_ne") ?_; wtm_at "ev_lk") | (refine same_lk (by assumption) ?_; wtm_at "ev_lk"))
local macro_rules | `(tactic| wtm_at "ev_sm") => `(tactic| first | assumption | exact Same.refl _ | (refine same_new ?_ (by assumption); wtm_at "ev_sm") | (refine Same.trans ?_ (by assumption); wtm_at "ev_sm"))
local macro_rules | `(tactic| wtm_at "ev_no") => `(tactic| first | assumption | exact no_back (by assumption) | (refine no_new ?_ (by wtm_at "ev_ne"); wtm_at "ev_no"))
local macro_rules | `(tactic| wtm_at "ev_sq") => `(tactic| first | assumption | exact SqL.of (by wtm_at "ev_lk") | exact SqT.of (by wtm_at "ev_lk"))
local macro_rules | `(tactic| wtm_at "ev_step") => `(tactic| with_reducible first
  | refine rd_seq ?_ | refine rd_next ?_ | refine rd_ret ?_ | refine rd_retN ?_ | refine rd_if ?_ | refine rd_drop ?_ | refine rd_asg ?_ | refine rd_name ?_ | refine rd_gsub ?_ | refine rd_gnil ?_ | refine rd_gcons ?_
  | refine rd_c ?_ | refine rd_op ?_ | refine rd_un ?_ | refine rd_rI0 ?_ | refine rd_rU ?_ | refine rd_tup ?_ | refine rd_lst ?_ | refine rd_nil ?_ | refine rd_cons ?_ | refine rd_cb ?_ | refine rd_call ?_ | refine rd_sl ?_ | refine rd_no ?_ | refine rd_part ?_
  | refine rd_test ?_ | refine rd_tB ?_ | refine rd_not ?_ | refine rd_and ?_ | refine rd_or ?_ | refine rd_notV ?_ | refine rd_andV ?_ | refine rd_orV ?_ | refine rd_ifE ?_ | refine rd_bl ?_ | refine rd_ex ?_
  | refine rd_rng1 ?_ | refine rd_overL ?_ | refine rd_overT ?_ | refine rd_forA ?_ | refine rd_forB ?_ | refine rd_forC ?_ | refine rd_lcA ?_ | refine rd_lcB ?_ | refine rd_lcC ?_ | refine rd_bm ?_ | refine rd_mkv ?_ | refine rd_xv ?_
  | refine rd_T ?_ | refine rd_F ?_ | refine rd_True ?_ | refine rd_False ?_ | refine rd_int ?_ | refine rd_intB ?_ | refine rd_one ?_ | refine rd_two ?_)
local macro_rules | `(tactic| wtm_at "ev_cond") => `(tactic| first | assumption | exact (show (0 : Int) < _ by decide) | exact (show (0 : Int) < _ by omega) | exact Or.inl ⟨by decide, by decide⟩ | exact Or.inr ⟨by decide, by decide⟩ | exact pow_cond (by decide) (by decide) (by first | decide | omega) (by first | decide | omega) | exact wide_div (b := 2000) (by first | assumption | decide | omega) (by first | decide | omega) (by decide) (by decide))
local macro_rules | `(tactic| wtm_at "ev_side") => `(tactic| first
  | ((with_reducible apply rd_var); exact rfl)
  | ((with_reducible apply rd_ixL); (wtm_at "ev_sq"); exact rfl)
  | ((with_reducible apply rd_ixT); (wtm_at "ev_sq"); exact rfl)
  | ((with_reducible apply rd_eq); exact rfl)
  | ((with_reducible apply rd_ne); exact rfl)
  | ((with_reducible apply rd_setL); (wtm_at "ev_lk"); exact rfl)
  | ((with_reducible apply rd_gtup); (wtm_at "ev_sq"); exact rfl)
  | ((with_reducible apply rd_len); (wtm_at "ev_sq"))
  | ((with_reducible apply rd_lenT); (wtm_at "ev_sq"))
  | ((with_reducible apply rd_rg); (first | decide | omega); (first | decide | omega))
  | ((with_reducible apply rd_atL); (wtm_at "ev_sq"))
  | ((with_reducible apply rd_atT); (wtm_at "ev_sq"))
  | ((with_reducible apply rd_tyL); (wtm_at "ev_sq"))
  | ((with_reducible apply rd_cat); (wtm_at "ev_lk"); (wtm_at "ev_lk"); exact Nat.le_of_ble_eq_true rfl)
  | ((with_reducible apply rd_size); exact Nat.le_of_ble_eq_true rfl)
  | ((with_reducible apply rd_rI); wtm_at "ev_cond"))
local macro_rules | `(tactic| wtm_at "ev_rd") => `(tactic| repeat (first | wtm_at "ev_step" | wtm_at "ev_side"))
local macro_rules | `(tactic| wtm_at "ev_go") => `(tactic| ((try simp only [L2.start, List.map_cons, List.map_nil, List.length_cons, List.length_nil, Nat.reduceAdd, Nat.reduceSub, List.replicate_succ, List.replicate_zero, List.cons_append, List.nil_append]); wtm_at "ev_rd"; (try simp only [List.set_cons_zero, List.set_cons_succ, upd_upd])))
local macro_rules | `(tactic| wtm_at "ev_step") => `(tactic| with_reducible first | refine rd_par ?_ | refine rd_par2 ?_ | refine rd_forD ?_)
local macro_rules | `(tactic| wtm_at "ev_side") => `(tactic| ((with_reducible apply rd_enumL); (wtm_at "ev_sq")))
local macro_rules | `(tactic| wtm_at "ev_cond") => `(tactic| exact Num.mul (by assumption) (by assumption))
local macro_rules | `(tactic| wtm_at "ev_step") => `(tactic| with_reducible first | refine rd_fld ?_ | refine rd_sfld ?_ | refine rd_tmko ?_ | refine rd_meth0 ?_)
local macro_rules | `(tactic| wtm_at "ev_step") => `(tactic| with_reducible first | refine rd_make ?_)
local macro_rules | `(tactic| wtm_at "ev_step") => `(tactic| with_reducible first | refine rd_methK ?_ | refine rd_txs ?_)
theorem sqT_same {K : PySem.W.Frag} {H H' : Hp} {a : Addr} {xs : List V} (h : SqT K H a xs) (e : Same H H') : SqT K H' a xs :=
  h.elim (fun h => .inl (h.elim (fun h => .inl (e _ _ h)) fun ⟨o, h⟩ => .inr ⟨o, e _ _ h⟩)) fun h => .inr h
mutual
theorem dp_mono {K : PySem.W.Frag} {H H' : Hp} (s : Same H H') : ∀ (d : PyData) (v : V), Dp K H v d → Dp K H' v d
  | .none, _, h => by cases h; exact .non
  | .bool b, _, h => by cases h; exact .bl b
  | .int i, _, h => by cases h; exact .int i
  | .str x, _, h => by cases h; exact .str x
  | .list ds, _, h => by cases h with | lst h1 h2 => exact .lst (sqL_same h1 s) (dp_monoA s ds _ h2)
  | .tuple ds, _, h => by cases h with | tup h1 h2 => exact .tup (sqT_same h1 s) (dp_monoA s ds _ h2)
  | .dict _, _, h => by cases h
theorem dp_monoA {K : PySem.W.Frag} {H H' : Hp} (s : Same H H') : ∀ (ds : List PyData) (vs : List V), DpAll K H vs ds → DpAll K H' vs ds
  | [], _, h => by cases h; exact .nil
  | d :: ds, _, h => by cases h with | cons a b => exact .cons (dp_mono s d _ a) (dp_monoA s ds _ b)
end
theorem rd_reprS {K : PySem.W.Frag} {H : Hp} {x : V} {d : PyData} {n k : Nat} {Q : VK} (h : Dp K H x d) (s : Sh d n k) (hn : n ≤ 16777216) (hk : k ≤ 100) (q : Q (.str d.shown) H) : rRepr K [x] H Q :=
  rd_repr h s.s s.h (Nat.le_trans s.e hk) (Nat.le_trans s.l (by rw [sizeLine_eq]; exact hn)) q

section
variable {σ : L2.St} {H : Hp}
theorem rd_prop {C : Addr} {sp : Sp} {dvs : List V} {E : XK} {ta : TE} {Q : VK} (h : ta σ H fun x H1 => ∃ a dx fs, x = .ref a ∧ H1 a = some (.ins C dx fs) ∧ sp (.ref a :: dvs) H1 Q E) : tProp C sp dvs E ta σ H Q := h
theorem rd_meth {C : Addr} {m : Str} {sp : Sp} {dvs : List V} {E : XK} {te : TE} {t : TA} {Q : VK} (h : te σ H fun x H1 => ∃ a dx fs, x = .ref a ∧ H1 a = some (.ins C dx fs) ∧ fs.lookup m = none ∧ t σ H1 fun vs H2 => sp (x :: (vs ++ dvs)) H2 Q E) : tMeth C m sp dvs E te t σ H Q := h
theorem rd_cut {t u : TS} {D : Ends} (M : L2.St → Hp → Prop) (h1 : t { D with nx := M } σ H) (h2 : ∀ σ' H', M σ' H' → u D σ' H') : C8.tCut t u D σ H := ⟨M, h1, h2⟩
end
local macro_rules | `(tactic| wtm_at "ev_step") => `(tactic| with_reducible first | refine rd_prop ?_)
theorem cutV_head {xs : List V} {k : Nat} : cutV xs none (some (k : Int)) = xs.take k := by
  unfold cutV
  rw [HT.sIx_none, HT.sIx_nat, List.drop_zero, Nat.sub_zero]
  by_cases h : k ≤ xs.length
  · rw [Nat.min_eq_left h]
  · rw [Nat.min_eq_right (by omega), List.take_length, List.take_of_length_le (by omega)]
theorem RlR.take {H : Hp} {L : List V} {rs : List (Int × Int × Int)} (k : Nat) (h : RlR H L rs) : RlR H (L.take k) (rs.take k) := by
  refine ⟨by rw [List.length_take, List.length_take, h.1], fun i v e => ?_⟩
  rw [List.getElem?_take] at e
  by_cases hi : i < k
  · rw [if_pos hi] at e
    obtain ⟨a, r, h1, h2, h3⟩ := h.2 i v e
    exact ⟨a, r, h1, by rw [List.getElem?_take, if_pos hi]; exact h2, h3⟩
  · rw [if_neg hi] at e
    cases e
theorem BookAt.put {C a p : Addr} {H : Hp} {lo hi n : Int} {L Lp : List V} {rs : List (Int × Int × Int)} {o : HO} (h : BookAt C H a lo hi L) (hR : RlR H L rs) (hp : H p = some (.lst Lp)) (hL : PoolL Lp n) : BookAt C (upd H p o) a lo hi L := by
  obtain ⟨dx, l, fs, h1, h2, r⟩ := h
  refine ⟨dx, l, fs, lk_ne (ne_of h1 hp (fun z => by cases z)) h1, lk_ne (fun e => ?_) h2, r⟩
  subst e
  rw [h2] at hp
  cases hp
  obtain ⟨z, m, c, rfl, _⟩ := hL
  obtain ⟨b, r', e, _⟩ := hR.2 0 _ rfl
  cases e
theorem negneg (rs : List (Int × Int × Int)) : (rs.map negR).map negR = rs := by
  rw [List.map_map]
  have : (negR ∘ negR : Int × Int × Int → Int × Int × Int) = id := by
    funext r
    obtain ⟨a, b, c⟩ := r
    show (a, - -b, - -c) = (a, b, c)
    rw [Int.neg_neg, Int.neg_neg]
  rw [this, List.map_id]
theorem sc10 (rs : List (Int × Int × Int)) : rs.map (scR 1 0) = rs := by
  have : (scR 1 0 : Int × Int × Int → Int × Int × Int) = id := by
    funext r
    obtain ⟨a, b, c⟩ := r
    show (a, 1 * b + 0 * a, 1 * c + 0 * a) = (a, b, c)
    rw [Int.one_mul, Int.one_mul, Int.zero_mul, Int.add_zero, Int.add_zero]
  rw [this, List.map_id]
/-- the numbers of the rules stay below so much -/
def Below (n : Nat) (rs : List (Int × Int × Int)) : Prop := ∀ r ∈ rs, r.1.natAbs ≤ n ∧ r.2.1.natAbs ≤ n ∧ r.2.2.natAbs ≤ n
theorem Below.small {n : Nat} {rs : List (Int × Int × Int)} (h : Below n rs) (hn : n < 10 ^ 9) : Small rs := fun r hr => ⟨by have := (h r hr).1; omega, by have := (h r hr).2.1; omega, by have := (h r hr).2.2; omega⟩
theorem Below.neg {n : Nat} {rs : List (Int × Int × Int)} (h : Below n rs) : Below n (rs.map negR) := fun r hr => by
  obtain ⟨q, hq, rfl⟩ := List.mem_map.mp hr
  obtain ⟨a, b, c⟩ := h q hq
  refine ⟨a, ?_, ?_⟩
  · show (-q.2.2).natAbs ≤ n
    omega
  · show (-q.2.1).natAbs ≤ n
    omega
theorem Below.sc {rs : List (Int × Int × Int)} {f s : Int} (h : Below 2000 rs) (h1 : f.natAbs ≤ 4) (h2 : s.natAbs ≤ 20) : Below 100000 (rs.map (scR f s)) := fun r hr => by
  obtain ⟨q, hq, rfl⟩ := List.mem_map.mp hr
  obtain ⟨a, b, c⟩ := h q hq
  have e : ∀ x y : Int, x.natAbs ≤ 2000 → y.natAbs ≤ 2000 → (f * x + s * y).natAbs ≤ 100000 := fun x y hx hy => by
    have z1 : (f * x).natAbs ≤ 4 * 2000 := by rw [Int.natAbs_mul]; exact Nat.mul_le_mul h1 hx
    have z2 : (s * y).natAbs ≤ 20 * 2000 := by rw [Int.natAbs_mul]; exact Nat.mul_le_mul h2 hy
    omega
  exact ⟨by show q.1.natAbs ≤ 100000; omega, e _ _ b a, e _ _ c a⟩
/-- what is told of a book, as a list -/
def bookD (lo hi : Int) (rs : List (Int × Int × Int)) : PyData := .list [.int lo, .int hi, .list (rs.map lineD)]
theorem bookD_sh {lo hi : Int} {rs : List (Int × Int × Int)} (h1 : lo.natAbs < 10 ^ 9) (h2 : hi.natAbs < 10 ^ 9) (h : Small rs) (hl : rs.length ≤ 100) : Sh (bookD lo hi rs) 20000 3 := by
  refine (Sh.list (n := 4000) (k := 2) (ds := [.int lo, .int hi, .list (rs.map lineD)]) fun d hd => ?_).mono (Nat.le_of_ble_eq_true rfl) (Nat.le_refl _)
  simp only [List.mem_cons, List.not_mem_nil, or_false] at hd
  rcases hd with rfl | rfl | rfl
  · exact (Sh.int h1).mono (by decide) (by decide)
  · exact (Sh.int h2).mono (by decide) (by decide)
  · exact h.sh hl
theorem bookD_dp {K : PySem.W.Frag} {H : Hp} {q l : Addr} {lo hi : Int} {R : List V} {rs : List (Int × Int × Int)} (h : H q = some (.lst [.int lo, .int hi, .ref l])) (hl : H l = some (.lst R)) (hR : RlR H R rs) : Dp K H (.ref q) (bookD lo hi rs) :=
  .lst (SqL.of h) (.cons (.int _) (.cons (.int _) (.cons (.lst (SqL.of hl) hR.all) .nil)))
theorem Sh.big {i : Int} (h : i.natAbs < 10 ^ 40) : Sh (.int i) 41 0 := by
  refine ⟨?_, by simp only [PyData.hasDict], by simp [PyData.depth], ?_⟩
  · have hb : i.natAbs.log2 < 1920 := by
      have e : (10 : Nat) ^ 40 < 2 ^ 1900 := by decide +kernel
      exact Nat.lt_of_lt_of_le (PySem.Flt.log2_lt_of (by decide) (Nat.lt_trans h e)) (by decide)
    simpa [PyData.showable] using hb
  · have e : (PyData.int i).shown = Str.ofString (toString i) := by simp only [PyData.shown]
    rw [e, PySem.ofString_length]
    exact int_text_length_le10 (by decide) h
def lawR (f s : Int) (r : Int × Int × Int) : Int × Int × Int := (r.1, f * r.2.1 + r.1 * s, f * r.2.2 + r.1 * s)
theorem lawR_eq (f s : Int) (rs : List (Int × Int × Int)) : rs.map (lawR f s) = rs.map (scR f s) := by
  refine List.map_congr_left fun r _ => ?_
  unfold lawR scR
  rw [Int.mul_comm r.1 s]
def spRight : Sp := fun vs H Q _ => ∃ (p : Addr) (L : List V) (n : Int), vs = [.ref p] ∧ H p = some (.lst L) ∧ PoolL L n ∧ n ≤ 100000 ∧ ∀ (H' : Hp) (L' : List V), Fr p H H' → H' p = some (.lst L') → PoolL L' (n + 2000) → Q (.bl true) H'
section
variable {P : Program} {w : World} {K : PySem.W.Frag} {mg : Str → Option Value} {base : Heap} {fI cD cR cB fB fN cN fT fS p_lo p_hi p_ru f_lo f_hi f_ru fQ : Addr}
set_option maxHeartbeats 8000000 in
theorem ok_right {f : Addr} {fd fdT fdS fdlo fdhi fdru fdQ : FuncData} (F : Fun K "_law_right" "_law_right" s_right f fd) (T : TxB K mg fI cD cR cB fB fN) (GD : CalN P w K mg base 1 "_law_draw" spDraw) (GK : CalN P w K mg base 2 "_law_kind" spKind)
    (GM : CalN P w K mg base 6 "_law_made" (spMade cB)) (GT : CalN P w K mg base 1 "_law_turned" spLTurned) (GC : CalN P w K mg base 7 "_law_caught" (spCaught cB))
    (mT : Meth K cB "turned" fT) (GU : FnOk P w K mg base CX0 6 fT fdT ["self"] (spTurned cB)) (bU : Binds K fdT ["self"] [])
    (mS : Meth K cB "scaled" fS) (GS : FnOk P w K mg base (L2.CX P w) 6 fS fdS ["self", "factor", "shift"] (spScaled cB cN)) (bS : Binds K fdS ["self", "factor", "shift"] [])
    (p_low : PropOf K cB "low" p_lo f_lo) (G_low : FnOk P w K mg base CX0 1 f_lo fdlo ["self"] (spLowOf cB)) (b_low : Binds K fdlo ["self"] [])
    (p_high : PropOf K cB "high" p_hi f_hi) (G_high : FnOk P w K mg base CX0 1 f_hi fdhi ["self"] (spHighOf cB)) (b_high : Binds K fdhi ["self"] [])
    (p_rules : PropOf K cB "rules" p_ru f_ru) (G_rules : FnOk P w K mg base CX0 1 f_ru fdru ["self"] (spRulesOf cB)) (b_rules : Binds K fdru ["self"] [])
    (GQ : FnOk P w K mg base CX0 1 fQ fdQ ["self", "other"] (spEq (TwoB cB))) (sQ : PySem.W.findIn K (.ref cB) "__eq__" = some (some (.ref fQ))) (kQ : PySem.W.isFn K (.ref fQ) = true) (bQ : Binds K fdQ ["self", "other"] []) : FnG P w K mg base CX0 8 f fd ["pool"] spRight := by
  refine fnG_of F sc_right (fun vs H Q E h => ?_) (fun cdv A outer s H vs Q E hgu hr h => ?_)
  · obtain ⟨p, L, n, rfl, _⟩ := h
    rfl
  · obtain ⟨p, L, n, rfl, hp, hL, hn, k⟩ := h
    refine ⟨_, (pss_cons (ps_set (i := 1) sc_right.nd rfl (Or.inl rfl) (pe_cN GK hr (by decide) (by rfl) (pa_cons (pv 0) (pa_cons pe_int (pa_cons pe_int pa_nil)))))
      (C8.pss_cut (ps_if (pt_cmpR op_eq (pe_cN GD hr (by decide) (by rfl) (pa_cons (pv 0) (pa_cons pe_int pa_nil))) pe_int (nomark _)) 
        (pss_one (ps_set (i := 1) sc_right.nd rfl (Or.inl rfl) (pe_tup (pa_cons (pe_ix ix_tup (pv 1) pe_int (fun _ _ => rfl)) (pa_cons (pe_ix ix_tup (pv 1) pe_int (fun _ _ => rfl)) (pa_cons (pe_op op_cat (pe_slice sl_list (pe_callTy call_list_of (by rfl) T.b.n_list boot_list (pa_cons (pe_ix ix_tup (pv 1) pe_int (fun _ _ => rfl)) pa_nil)) po_none (po_some pe_int)) (pe_lst (pa_cons (pe_tup (pa_cons pe_int (pa_cons (pe_op op_add (pe_op op_mulW pe_int (pe_ix ix_tup (pv 1) pe_int (fun _ _ => rfl))) pe_int) (pa_cons (pe_op op_add (pe_op op_mulW pe_int (pe_ix ix_tup (pv 1) pe_int (fun _ _ => rfl))) pe_int) pa_nil)))) pa_nil))) pa_nil)))))) pss_nil)
      (pss_cons (ps_par (i := 2) (j := 3) (by rfl) sc_right.nd rfl rfl (by decide) rfl rfl (pa_cons (pe_cN GM hr (by decide) (by rfl) (pa_cons (pv 1) pa_nil)) (pa_cons (pe_cN GT hr (by decide) (by rfl) (pa_cons (pv 1) pa_nil)) pa_nil)) (by rfl))
      (pss_cons (ps_set (i := 4) sc_right.nd rfl (Or.inl rfl) (pe_meth0 (pv 2) T.cls mT GU (hr.mono (by decide)) bU .nil pass0))
      (pss_cons (ps_if (pw_or (pt_cmpR op_ne (pe_callB (call_repr_data hgu (hun hr)) (by rfl) T.b.n_repr boot_repr (pa_cons (pe_lst (pa_cons (pe_prop (pv 4) T.cls p_low G_low (hr.mono (by decide)) b_low .nil pass0 rfl) (pa_cons (pe_prop (pv 4) T.cls p_high G_high (hr.mono (by decide)) b_high .nil pass0 rfl) (pa_cons (pe_prop (pv 4) T.cls p_rules G_rules (hr.mono (by decide)) b_rules .nil pass0 rfl) pa_nil)))) pa_nil)) (pe_callB (call_repr_data hgu (hun hr)) (by rfl) T.b.n_repr boot_repr (pa_cons (pe_lst (pa_cons (pe_ix ix_tup (pv 3) pe_int (fun _ _ => rfl)) (pa_cons (pe_ix ix_tup (pv 3) pe_int (fun _ _ => rfl)) (pa_cons (pe_ix ix_tup (pv 3) pe_int (fun _ _ => rfl)) pa_nil)))) pa_nil)) (nomark _)) (pw_or1 (pt_not (pt_cmpR (op_eqG (rcG_ins GQ sQ kQ bQ pass0) (hr.mono (by decide))) (pe_meth0 (pv 4) T.cls mT GU (hr.mono (by decide)) bU .nil pass0) (pv 2) (nomark _))))).pt 
        (pss_one (ps_ret pe_bl)) pss_nil)
      (pss_cons (ps_asg (pe_tup (pa_cons (pe_op op_add pe_int (pe_cN GD hr (by decide) (by rfl) (pa_cons (pv 0) (pa_cons pe_int pa_nil)))) (pa_cons (pe_op op_sub (pe_cN GD hr (by decide) (by rfl) (pa_cons (pv 0) (pa_cons pe_int pa_nil))) pe_int) pa_nil))) (pg_tup rfl (pgs_cons (pg_name (i := 5) sc_right.nd rfl (Or.inr rfl)) (pgs_cons (pg_name (i := 6) sc_right.nd rfl (Or.inr rfl)) pgs_nil))))
      (pss_cons (ps_setLc (i := 7) (own := [("size", 9), ("few", 10), ("many", 11)]) (g := gTup K 3 (gCons (gName 9) (gCons (gName 10) (gCons (gName 11) gNil)))) (tt := tYes) rfl sc_right.nd rfl rfl (sw_true rfl rfl rfl (by decide +kernel)) (pi_list (pe_ix ix_tup (pv 1) pe_int (fun _ _ => rfl))) (blkOk_by (N := ["pool", "kind", "made", "due", "told", "often", "more", "rules_due", "wrong", "size", "few", "many"]) (sc := defScope s_right) (by decide +kernel)) (fun _ _ _ _ _ => pg_tup rfl (pgs_cons (pg_name (i := 9) sc_right.nd rfl (Or.inl rfl)) (pgs_cons (pg_name (i := 10) sc_right.nd rfl (Or.inl rfl)) (pgs_cons (pg_name (i := 11) sc_right.nd rfl (Or.inl rfl)) pgs_nil)))) (fun _ _ _ _ _ => pts_nil) (fun _ _ _ _ _ => (pe_tup (pa_cons (pv 9) (pa_cons (pe_op op_add (pe_op op_mulW (pv 5) (pv 10)) (pe_op op_mulW (pv 9) (pv 6))) (pa_cons (pe_op op_add (pe_op op_mulW (pv 5) (pv 11)) (pe_op op_mulW (pv 9) (pv 6))) pa_nil))))))
      (pss_cons (ps_set (i := 3) sc_right.nd rfl (Or.inl rfl) (pe_lst (pa_cons (pe_op op_add (pe_op op_mulW (pv 5) (pe_ix ix_tup (pv 1) pe_int (fun _ _ => rfl))) (pv 6)) (pa_cons (pe_op op_add (pe_op op_mulW (pv 5) (pe_ix ix_tup (pv 1) pe_int (fun _ _ => rfl))) (pv 6)) (pa_cons (pv 7) pa_nil)))))
      (pss_cons (ps_for PassesOwn.never rfl (pi_tup (pe_tup (pa_cons (pe_meth (pv 2) T.cls mS GS (hr.mono (by decide)) bS .nil L2.passL (pa_cons (pv 5) (pa_cons (pv 6) pa_nil))) (pa_cons (pe_cN GC hr (by decide) (by rfl) (pa_cons (pv 2) (pa_cons (pv 5) (pa_cons (pv 6) pa_nil)))) pa_nil)))) (pg_name (i := 4) sc_right.nd rfl (Or.inl rfl)) 
        (pss_one (ps_if (pt_cmpR op_ne (pe_callB (call_repr_data hgu (hun hr)) (by rfl) T.b.n_repr boot_repr (pa_cons (pe_lst (pa_cons (pe_prop (pv 4) T.cls p_low G_low (hr.mono (by decide)) b_low .nil pass0 rfl) (pa_cons (pe_prop (pv 4) T.cls p_high G_high (hr.mono (by decide)) b_high .nil pass0 rfl) (pa_cons (pe_prop (pv 4) T.cls p_rules G_rules (hr.mono (by decide)) b_rules .nil pass0 rfl) pa_nil)))) pa_nil)) (pe_callB (call_repr_data hgu (hun hr)) (by rfl) T.b.n_repr boot_repr (pa_cons (pv 3) pa_nil)) (nomark _)) 
          (pss_one (ps_ret pe_bl)) pss_nil)))
      (pss_cons (ps_for PassesOwn.never rfl (pi_tup (pe_tup (pa_cons pe_int (pa_cons (pe_un un_neg pe_int) (pa_cons (pe_op op_sub (pe_un un_neg pe_int) (pe_cN GD hr (by decide) (by rfl) (pa_cons (pv 0) (pa_cons (pe_op op_powW pe_int pe_int) pa_nil)))) pa_nil))))) (pg_name (i := 8) sc_right.nd rfl (Or.inl rfl)) 
        (pss_one (ps_if (pt_cmpR op_ne (pe_callB (call_repr_data hgu (hun hr)) (by rfl) T.b.n_repr boot_repr (pa_cons (pe_cN GC hr (by decide) (by rfl) (pa_cons (pv 2) (pa_cons (pv 8) (pa_cons (pv 6) pa_nil)))) pa_nil)) (pe_callB (call_repr_data hgu (hun hr)) (by rfl) T.b.n_repr boot_repr (pa_cons (pe_lst (pa_cons (pv 8) pa_nil)) pa_nil)) (nomark _)) 
          (pss_one (ps_ret pe_bl)) pss_nil)))
      (pss_one (ps_ret (pe_and (pe_cmpR (op_eqG (rcG_ins GQ sQ kQ bQ pass0) (hr.mono (by decide))) (pe_meth (pv 2) T.cls mS GS (hr.mono (by decide)) bS .nil L2.passL (pa_cons pe_int (pa_cons pe_int pa_nil))) (pv 2) (nomark _)) (pe_one (pe_cmpR (op_eqG (rcG_ins GQ sQ kQ bQ pass0) (hr.mono (by decide))) (pv 2) (pe_cN GM hr (by decide) (by rfl) (pa_cons (pv 1) pa_nil)) (nomark _)))))))))))))))), ?_⟩
    wtm_at "ev_go"
    refine ⟨p, L, n, 40, 6, rfl, hp, hL, by omega, by decide, by decide, by decide, by decide, fun kd l L1 R rs lo hi H1 fr1 hp1 hL1 hkd nkd hl nl ne hR hlen lo1 lohi hi1 hW hSh => ?_⟩
    have nkp : kd ≠ p := (ne_of_none hp nkd).symm
    have nlp : l ≠ p := (ne_of_none hp nl).symm
    have fine := hSh.fine hW
    have blw : Below 2000 rs := fun r hr => by
      obtain ⟨w1, w2, w3, w4, w5, w6⟩ := hW r hr
      exact ⟨by omega, by omega, by omega⟩
    wtm_at "ev_go"
    refine rd_cut (fun σ' H' => ∃ (kd l : Addr) (L' R : List V) (rs : List (Int × Int × Int)) (lo hi : Int), σ' = [some (.ref p), some (.ref kd), none, none, none, none, none, none, none, none, none, none] ∧ H' p = some (.lst L') ∧ PoolL L' (n + 1010) ∧ Fr p H H' ∧
      H' kd = some (.tup [.int lo, .int hi, .ref l]) ∧ H' l = some (.lst R) ∧ kd ≠ p ∧ l ≠ p ∧ RlR H' R rs ∧ rs.length ≤ 6 ∧ -20 ≤ lo ∧ lo ≤ hi ∧ hi ≤ 20 ∧ Fine rs ∧ Below 2000 rs) ?_ ?_
    · wtm_at "ev_go"
      refine rd_draw (by wtm_at "ev_lk") hL1 (by omega) (by decide) (by decide +kernel) (fun d1 Ld1 ad1 bd1 hLd1 => ?_)
      have hkd1 : upd H1 p (.lst Ld1) kd = some (.tup [.int lo, .int hi, .ref l]) := lk_ne nkp hkd
      have hl1 : upd H1 p (.lst Ld1) l = some (.lst R) := lk_ne nlp hl
      have hp2 : upd H1 p (.lst Ld1) p = some (.lst Ld1) := upd_same
      have hR1 : RlR (upd H1 p (.lst Ld1)) R rs := hR.put hp1
      have fr2 : Fr p H (upd H1 p (.lst Ld1)) := fr1.put
      generalize upd H1 p (.lst Ld1) = H2 at hkd1 hl1 hp2 hR1 fr2 ⊢
      wtm_at "ev_go"
      refine rd_ite (fun hz => ?_) (fun hz => ?_)
      · have num_3 : Num 3 := num_of (by decide)
        have num_h : Num hi := num_of (by omega)
        wtm_at "ev_go"
        intro c hc
        wtm_at "ev_go"
        refine rd_slL (SqL.of upd_same) (fun c5 hc5 => ?_)
        rw [show (5 : Int) = ((5 : Nat) : Int) from rfl, cutV_head]
        wtm_at "ev_go"
        intro t ht
        wtm_at "ev_go"
        intro q hq
        wtm_at "ev_go"
        have n5 : c5 ≠ t := ne_of_none upd_same ht
        have nt : t ≠ q := ne_of_none upd_same hq
        have n5q : c5 ≠ q := ne_of_none (lk_ne n5 upd_same) hq
        refine rd_cat (lk_ne n5q (lk_ne n5 upd_same)) upd_same (by rw [List.length_take, List.length_cons, List.length_nil]; omega) (fun z hz' => ?_)
        wtm_at "ev_go"
        intro kd' hkd'
        have s1 := Same.new (o := .lst R) hc
        have s2 := s1.trans (Same.new (o := .lst (R.take 5)) hc5)
        have s3 := s2.trans (Same.new (o := .tup [V.int 3, .int (3 * hi + 1), .int (3 * hi + 2)]) ht)
        have s4 := s3.trans (Same.new (o := .lst [V.ref t]) hq)
        have s5 := s4.trans (Same.new (o := .lst (R.take 5 ++ [V.ref t])) hz')
        have s6 := s5.trans (Same.new (o := .tup [V.int lo, .int hi, .ref z]) hkd')
        have ntz : t ≠ z := ne_of_none (lk_ne nt upd_same) hz'
        have ntk : t ≠ kd' := ne_of_none (lk_ne ntz (lk_ne nt upd_same)) hkd'
        have nzk : z ≠ kd' := ne_of_none upd_same hkd'
        wtm_at "ev_go"
        refine ⟨kd', z, Ld1, R.take 5 ++ [.ref t], rs.take 5 ++ [(3, 3 * hi + 1, 3 * hi + 2)], lo, hi, rfl, s6 _ _ hp2, hLd1.le (by omega), fr2.same s6, upd_same, lk_ne nzk upd_same, (ne_of_none (s5 _ _ hp2) hkd').symm, (ne_of_none (s4 _ _ hp2) hz').symm, ?_, ?_, lo1, lohi, hi1, ?_, ?_⟩
        · exact ((hR1.take 5).mono s6).add (lk_ne ntk (lk_ne ntz (lk_ne nt upd_same))) num_3 (num_of (by omega)) (num_of (by omega))
        · rw [List.length_append, List.length_take, List.length_singleton]
          omega
        · intro j r' e
          rw [List.getElem?_append] at e
          by_cases hj : j < (rs.take 5).length
          · rw [if_pos hj, List.getElem?_take] at e
            by_cases h5 : j < 5
            · rw [if_pos h5] at e
              exact fine j r' e
            · rw [if_neg h5] at e
              cases e
          · rw [if_neg hj] at e
            have := List.mem_of_getElem? e
            rw [List.mem_singleton.mp this]
            unfold okR
            rw [decide_eq_true (show (1 : Int) ≤ 3 by decide), decide_eq_true (by show 3 * hi + 1 ≤ 3 * hi + 2; omega)]
            rfl
        · intro r hr
          rcases List.mem_append.mp hr with hr | hr
          · exact blw r (List.mem_of_mem_take hr)
          · rw [List.mem_singleton.mp hr]
            exact ⟨show (3 : Int).natAbs ≤ 2000 by decide, by show (3 * hi + 1).natAbs ≤ 2000; omega, by show (3 * hi + 2).natAbs ≤ 2000; omega⟩
      · wtm_at "ev_go"
        exact ⟨kd, l, Ld1, R, rs, lo, hi, rfl, hp2, hLd1.le (by omega), fr2, hkd1, hl1, nkp, nlp, hR1, by omega, lo1, lohi, hi1, fine, blw⟩
    · clear hSh hW blw fine nkp nlp hlen hR ne nl hl nkd hkd hL1 hp1 fr1 lo1 lohi hi1
      clear lo hi rs R L1 l kd H1
      rintro σ' H1 ⟨kd, l, L1, R, rs, lo, hi, rfl, hp1, hL1, fr1, hkd, hl, nkp, nlp, hR, hlen, lo1, lohi, hi1, fine, blw⟩
      have hRl : R.length ≤ 1000 := by rw [hR.1]; omega
      have num_l : Num lo := num_of (by omega)
      have num_h : Num hi := num_of (by omega)
      wtm_at "ev_go"
      refine ⟨kd, l, lo, hi, R, rs, rfl, hkd, hl, hR, hRl, num_l, num_h, lohi, fine, fun a H2 s2 na bk => ?_⟩
      wtm_at "ev_go"
      refine ⟨kd, l, lo, hi, R, rs, rfl, s2 _ _ hkd, s2 _ _ hl, hR.mono s2, hRl, fun d c R2 H3 s3 nd hd hc hR2 => ?_⟩
      wtm_at "ev_go"
      have bk3 := bk.mono s3
      have s13 := s2.trans s3
      obtain ⟨dx, l0, fs, ha, hl0, l1, l2, l3, l4, l5⟩ := id bk3
      refine ⟨a, dx, fs, rfl, ha, l4, ?_⟩
      wtm_at "ev_go"
      refine ⟨a, lo, hi, R, rs, rfl, bk3, hR.mono s13, hRl, num_l, num_h, lohi, fine, fun b R3 H4 s4 nb bk4 hR3 => ?_⟩
      wtm_at "ev_go"
      clear ha hl0 l1 l2 l3 l4 l5
      obtain ⟨dx4, l04, fs4, ha4, hl04, l41, l42, l43, l44, l45⟩ := id bk4
      refine ⟨b, dx4, fs4, rfl, ha4, b, _, _, _, rfl, bk4, ?_⟩
      wtm_at "ev_go"
      refine ⟨b, dx4, fs4, rfl, ha4, b, _, _, _, rfl, bk4, ?_⟩
      wtm_at "ev_go"
      refine ⟨b, dx4, fs4, rfl, ha4, b, _, _, _, rfl, bk4, fun r1 hr1 => ?_⟩
      wtm_at "ev_go"
      intro q1 hq1
      wtm_at "ev_go"
      have sr1 := Same.new (o := .lst R3) hr1
      have sq1 := Same.new (o := .lst [V.int (-hi), .int (-lo), .ref r1]) hq1
      have hq1' : r1 ≠ q1 := ne_of_none upd_same hq1
      have small3 := blw.neg.small (by decide)
      have len3 : (rs.map negR).length ≤ 100 := by rw [List.length_map]; omega
      refine rd_reprS (bookD_dp upd_same (lk_ne hq1' upd_same) (hR3.mono (sr1.trans sq1))) (bookD_sh (by omega) (by omega) small3 len3) (by decide) (by decide) ?_
      wtm_at "ev_go"
      have s34 := (s4.trans sr1).trans sq1
      have hd5 := s34 _ _ hd
      have hc5 := s34 _ _ hc
      have hR25 := hR2.mono s34
      have bk5 := bk4.mono (sr1.trans sq1)
      have bkm := bk3.mono s34
      have hR35 := hR3.mono (sr1.trans sq1)
      have hp5 := s34 _ _ (s13 _ _ hp1)
      have s15 := s13.trans s34
      generalize upd (upd H4 r1 (.lst R3)) q1 (.lst [V.int (-hi), .int (-lo), .ref r1]) = H5 at hd5 hc5 hR25 bk5 bkm hR35 hp5 s15 ⊢
      intro q2 hq2
      wtm_at "ev_go"
      have sq2 := Same.new (o := .lst [V.int (-hi), .int (-lo), .ref c]) hq2
      refine rd_reprS (bookD_dp upd_same (sq2 _ _ hc5) (hR25.mono sq2)) (bookD_sh (by omega) (by omega) small3 len3) (by decide) (by decide) ?_
      wtm_at "ev_go"
      rw [if_neg (by simp)]
      wtm_at "ev_go"
      have bk6 := bk5.mono sq2
      obtain ⟨dx6, l06, fs6, ha6, hl06, l61, l62, l63, l64, l65⟩ := id bk6
      refine ⟨b, dx6, fs6, rfl, ha6, l64, ?_⟩
      wtm_at "ev_go"
      have num_nh : Num (-hi) := num_neg num_h
      have num_nl : Num (-lo) := num_neg num_l
      refine ⟨b, -hi, -lo, R3, rs.map negR, rfl, bk6, hR35.mono sq2, by rw [hR35.1, List.length_map]; omega, num_nh, num_nl, by omega, fine.neg, fun b7 R7 H7 s7 nb7 bk7 hR7 => ?_⟩
      rw [Int.neg_neg, Int.neg_neg] at bk7
      rw [negneg] at hR7
      wtm_at "ev_go"
      have s67 := sq2.trans s7
      have bkm7 := bkm.mono s67
      obtain ⟨dx7, l07, fs7, ha7, hl07, _⟩ := id bk7
      obtain ⟨dxm, l0m, fsm, ham, hl0m, _⟩ := id bkm7
      refine ⟨⟨b7, a, dx7, dxm, fs7, fsm, rfl, rfl, ha7, ham, lo, hi, R7, R, rs, bk7, bkm7, hR7, hR.mono (s15.trans s67)⟩, fun H8 s8 => ?_⟩
      wtm_at "ev_go"
      rw [if_neg (by decide : ¬ (!true) = true)]
      wtm_at "ev_go"
      have s18 := (s15.trans s67).trans s8
      have hp8 := s18 _ _ hp1
      have bkm8 := bkm7.mono s8
      have hkd8 := s18 _ _ hkd
      have hl8 := s18 _ _ hl
      have hR8 := hR.mono s18
      have fr8 := fr1.same s18
      clear hkd hl hR fr1 hp1 bkm7 bkm bk7 hR7 bk6 hR35 hR25 bk5 hc5 hd5 hp5 s15 s67 s7 sq2 s34 s13 s3 s2 bk bk3 s4 bk4 hR3 sr1 sq1 hR2 ha7 hl07 ham hl0m ha6 hl06 ha4 hl04
      refine rd_draw (by wtm_at "ev_lk") hL1 (by omega) (by decide) (by decide +kernel) (fun d1 Ld1 ad1 bd1 hLd1 => ?_)
      have hp9 : upd H8 p (.lst Ld1) p = some (.lst Ld1) := upd_same
      have bkm9 := bkm8.put (o := .lst Ld1) hR8 hp8 hL1
      have hkd9 : upd H8 p (.lst Ld1) kd = _ := lk_ne nkp hkd8
      have hl9 : upd H8 p (.lst Ld1) l = _ := lk_ne nlp hl8
      have hR9 := hR8.put (o := .lst Ld1) hp8
      have fr9 : Fr p H (upd H8 p (.lst Ld1)) := fr8.put
      generalize upd H8 p (.lst Ld1) = H9 at hp9 bkm9 hkd9 hl9 hR9 fr9 ⊢
      wtm_at "ev_go"
      refine rd_draw (by wtm_at "ev_lk") hLd1 (by omega) (by decide) (by decide +kernel) (fun d2 Ld2 ad2 bd2 hLd2 => ?_)
      have hpA : upd H9 p (.lst Ld2) p = some (.lst Ld2) := upd_same
      have bkmA := bkm9.put (o := .lst Ld2) hR9 hp9 hLd1
      have hkdA : upd H9 p (.lst Ld2) kd = _ := lk_ne nkp hkd9
      have hlA : upd H9 p (.lst Ld2) l = _ := lk_ne nlp hl9
      have hRA := hR9.put (o := .lst Ld2) hp9
      have frA : Fr p H (upd H9 p (.lst Ld2)) := fr9.put
      generalize upd H9 p (.lst Ld2) = HA at hpA bkmA hkdA hlA hRA frA ⊢
      clear hp9 bkm9 hkd9 hl9 hR9 fr9 hp8 bkm8 hkd8 hl8 hR8 fr8
      wtm_at "ev_go"
      intro tp htp
      have stp := Same.new (o := .tup [V.int (1 + d1), .int (d2 - 20)]) htp
      wtm_at "ev_go"
      have hpB := stp _ _ hpA
      have bkmB := bkmA.mono stp
      have hkdB := stp _ _ hkdA
      have hlB := stp _ _ hlA
      have hRB := hRA.mono stp
      have frB := frA.same stp
      generalize upd HA tp (.tup [V.int (1 + d1), .int (d2 - 20)]) = HB at hpB bkmB hkdB hlB hRB frB ⊢
      clear hpA bkmA hkdA hlA hRA frA stp htp
      have f1 : 1 ≤ 1 + d1 := by omega
      have f4 : 1 + d1 ≤ 4 := by omega
      have g1 : -20 ≤ d2 - 20 := by omega
      have g2 : d2 - 20 ≤ 20 := by omega
      generalize 1 + d1 = often at f1 f4 ⊢
      generalize d2 - 20 = more at g1 g2 ⊢
      have num_o : Num often := num_of (by omega)
      have num_m : Num more := num_of (by omega)
      have tf : Tiny often := (by omega : often.natAbs < 10 ^ 9)
      have ts : Tiny more := (by omega : more.natAbs < 10 ^ 9)
      have tlo : Tiny lo := (by omega : lo.natAbs < 10 ^ 9)
      have thi : Tiny hi := (by omega : hi.natAbs < 10 ^ 9)
      have small0 := blw.small (by decide)
      wtm_at "ev_go"
      refine rd_lcRule (lawR often more) (SqL.of hlB) hRB hRl rfl (fun r hr => ?_) (fun x y z => rfl) (fun r H' Q' hr _ h => ?_) (fun rd R3 HC s1 hrd hR3 hRR => ?_)
      · obtain ⟨a1, a2, a3⟩ := small0 r hr
        exact ⟨num_of a1, num_sc tf a1 a2 ts, num_sc tf a1 a3 ts⟩
      · obtain ⟨a1, a2, a3⟩ := small0 r hr
        have n1 : Num r.1 := num_of a1
        have n2 : Num r.2.1 := num_of a2
        have n3 : Num r.2.2 := num_of a3
        simp only [L2.wipe, List.foldl_cons, List.foldl_nil, List.set_cons_succ, List.set_cons_zero]
        wtm_at "ev_go"
        exact h
      rw [lawR_eq] at hRR
      have hpC := s1 _ _ hpB
      have bkmC := bkmB.mono s1
      have hkdC := s1 _ _ hkdB
      have hlC := s1 _ _ hlB
      have hRC := hRB.mono s1
      have frC := frB.same s1
      clear hpB bkmB hkdB hlB hRB frB s1
      wtm_at "ev_go"
      intro du hdu
      have sdu := Same.new (o := .lst [V.int (often * lo + more), .int (often * hi + more), .ref rd]) hdu
      wtm_at "ev_go"
      have bkmD := bkmC.mono sdu
      obtain ⟨dxm, l0m, fsm, ham, hl0m, m1, m2, m3, m4, m5⟩ := id bkmD
      refine ⟨a, dxm, fsm, rfl, ham, m5, ?_⟩
      wtm_at "ev_go"
      refine ⟨a, often, more, lo, hi, R, rs, rfl, bkmD, hRC.mono sdu, hRl, lohi, fine, fun h => absurd h (by omega), fun _ => ⟨tf, ts, tlo, thi, small0, fun b1 Rb1 HE sE nb1 bkE hRE => ?_⟩⟩
      wtm_at "ev_go"
      refine ⟨a, often, more, lo, hi, R, rs, rfl, bkmD.mono sE, hRC.mono (sdu.trans sE), hRl, lohi, fine, fun h => absurd h (by omega), fun _ => ⟨tf, ts, tlo, thi, small0, fun b2 Rb2 HF sF nb2 bkF hRF => ?_⟩⟩
      wtm_at "ev_go"
      intro tt htt
      wtm_at "ev_go"
      have stt := Same.new (o := .tup [V.ref b1, .ref b2]) htt
      have sCG := ((sdu.trans sE).trans sF).trans stt
      have two : ∀ (i : Nat) x, [V.ref b1, V.ref b2][i]? = some x → ∃ (bb : Addr) (Rb : List V), x = .ref bb ∧ BookAt cB (upd HF tt (.tup [V.ref b1, .ref b2])) bb (often * lo + more) (often * hi + more) Rb ∧ RlR (upd HF tt (.tup [V.ref b1, .ref b2])) Rb (rs.map (scR often more)) := by
        intro i x e
        rcases i with _ | _ | i
        · cases e
          exact ⟨b1, Rb1, rfl, bkE.mono (sF.trans stt), hRE.mono (sF.trans stt)⟩
        · cases e
          exact ⟨b2, Rb2, rfl, bkF.mono stt, hRF.mono stt⟩
        · cases e
      have htt' : upd HF tt (.tup [V.ref b1, .ref b2]) tt = some (.tup [V.ref b1, .ref b2]) := upd_same
      have hpG := sCG _ _ hpC
      have bkmG := bkmC.mono sCG
      have hkdG := sCG _ _ hkdC
      have hlG := sCG _ _ hlC
      have hRG := hRC.mono sCG
      have frG := frC.same sCG
      have hduG := ((sE.trans sF).trans stt) _ _ (upd_same (H := HC) (a := du) (o := .lst [V.int (often * lo + more), .int (often * hi + more), .ref rd]))
      have hrdG := sCG _ _ hR3
      have hRRG := hRR.mono sCG
      generalize upd HF tt (.tup [V.ref b1, .ref b2]) = HG at two htt' hpG bkmG hkdG hlG hRG frG hduG hrdG hRRG ⊢
      clear hpC bkmC hkdC hlC hRC frC sCG stt htt sF sE bkE bkF hRE hRF sdu hdu ham hl0m bkmD hR3 hRR hrd
      have blsc : Below 100000 (rs.map (scR often more)) := blw.sc (by omega) (by omega)
      have lensc : (rs.map (scR often more)).length ≤ 100 := by rw [List.length_map]; omega
      have bnd : ∀ x : Int, x.natAbs ≤ 20 → (often * x + more).natAbs < 10 ^ 9 := fun x hx => by
        have z1 : (often * x).natAbs ≤ 4 * 20 := by rw [Int.natAbs_mul]; exact Nat.mul_le_mul (by omega) hx
        omega
      have bl := bnd lo (by omega)
      have bh := bnd hi (by omega)
      refine rd_forT (fun i σ' H' => ∃ (x4 : Option V), σ' = [some (.ref p), some (.ref kd), some (.ref a), some (.ref du), x4, some (.int often), some (.int more), some (.ref rd), none, none, none, none] ∧ Same HG H') ⟨_, rfl, Same.refl _⟩ (fun i σ' H' _ h => by obtain ⟨_, _, z⟩ := h; exact SqT.of (z _ _ htt')) ?_ ?_
      · rintro i x σ' H' hx ⟨x4, rfl, sm⟩
        obtain ⟨bb, Rb, rfl, bkb, hRb⟩ := two i x hx
        have bkb := bkb.mono sm
        have hRb := hRb.mono sm
        obtain ⟨dxb, l0b, fsb, hab, _⟩ := id bkb
        wtm_at "ev_go"
        refine ⟨bb, dxb, fsb, rfl, hab, bb, _, _, _, rfl, bkb, ?_⟩
        wtm_at "ev_go"
        refine ⟨bb, dxb, fsb, rfl, hab, bb, _, _, _, rfl, bkb, ?_⟩
        wtm_at "ev_go"
        refine ⟨bb, dxb, fsb, rfl, hab, bb, _, _, _, rfl, bkb, fun r1 hr1 => ?_⟩
        wtm_at "ev_go"
        intro q1 hq1
        wtm_at "ev_go"
        have sr1 := Same.new (o := .lst Rb) hr1
        have sq1 := Same.new (o := .lst [V.int (often * lo + more), .int (often * hi + more), .ref r1]) hq1
        have hq1' : r1 ≠ q1 := ne_of_none upd_same hq1
        have s2 := sr1.trans sq1
        have s3 := sm.trans s2
        refine rd_reprS (bookD_dp upd_same (lk_ne hq1' upd_same) (hRb.mono s2)) (bookD_sh bl bh (blsc.small (by decide)) lensc) (by decide) (by decide) ?_
        wtm_at "ev_go"
        refine rd_reprS (bookD_dp (s3 _ _ hduG) (s3 _ _ hrdG) (hRRG.mono s3)) (bookD_sh bl bh (blsc.small (by decide)) lensc) (by decide) (by decide) ?_
        wtm_at "ev_go"
        rw [if_neg (by simp)]
        wtm_at "ev_go"
        exact ⟨_, rfl, s3⟩
      · rintro σ' H' ⟨x4, rfl, sm⟩
        have hpH := sm _ _ hpG
        have bkmH := bkmG.mono sm
        have hkdH := sm _ _ hkdG
        have hlH := sm _ _ hlG
        have hRH := hRG.mono sm
        have frH := frG.same sm
        clear hpG bkmG hkdG hlG hRG frG hduG hrdG hRRG sm two htt'
        wtm_at "ev_go"
        refine rd_draw (by wtm_at "ev_lk") hLd2 (by omega) (by decide) (by decide +kernel) (fun d3 Ld3 ad3 bd3 hLd3 => ?_)
        have bd30 : d3 < 1000000000000000000000000000000 := by
          rw [show ((10 : Int) ^ Int.toNat 30) = 1000000000000000000000000000000 by decide +kernel] at bd3
          exact bd3
        have hpI : upd H' p (.lst Ld3) p = some (.lst Ld3) := upd_same
        have bkmI := bkmH.put (o := .lst Ld3) hRH hpH hLd2
        have hkdI : upd H' p (.lst Ld3) kd = _ := lk_ne nkp hkdH
        have hlI : upd H' p (.lst Ld3) l = _ := lk_ne nlp hlH
        have hRI := hRH.put (o := .lst Ld3) hpH
        have frI : Fr p H (upd H' p (.lst Ld3)) := frH.put
        generalize upd H' p (.lst Ld3) = HI at hpI bkmI hkdI hlI hRI frI ⊢
        clear hpH bkmH hkdH hlH hRH frH
        wtm_at "ev_go"
        intro tw htw
        wtm_at "ev_go"
        have stw := Same.new (o := .tup [V.int 0, .int (-1), .int (-1 - d3)]) htw
        have three : ∀ (i : Nat) x, [V.int 0, V.int (-1), V.int (-1 - d3)][i]? = some x → ∃ z : Int, x = .int z ∧ z < 1 ∧ z.natAbs < 10 ^ 40 := by
          intro i x e
          rcases i with _ | _ | _ | i
          · cases e; exact ⟨0, rfl, by decide, by decide⟩
          · cases e; exact ⟨-1, rfl, by decide, by decide⟩
          · cases e; exact ⟨-1 - d3, rfl, by omega, by omega⟩
          · cases e
        refine rd_forT (fun i σ' H' => ∃ (x8 : Option V), σ' = [some (.ref p), some (.ref kd), some (.ref a), some (.ref du), x4, some (.int often), some (.int more), some (.ref rd), x8, none, none, none] ∧ Same (upd HI tw (.tup [V.int 0, .int (-1), .int (-1 - d3)])) H') ⟨_, rfl, Same.refl _⟩ (fun i σ' H' _ h => by obtain ⟨_, _, z⟩ := h; exact SqT.of (z _ _ upd_same)) ?_ ?_
        · rintro i x σ' H1 hx ⟨x8, rfl, sm⟩
          obtain ⟨z, rfl, hz1, hz2⟩ := three i x hx
          have smI := stw.trans sm
          wtm_at "ev_go"
          refine ⟨a, z, more, lo, hi, R, rs, rfl, bkmI.mono smI, hRI.mono smI, hRl, lohi, fine, fun _ p1 H2 s2 np1 hp1 => ?_, fun h => absurd h (by omega)⟩
          wtm_at "ev_go"
          have shz : Sh (.list [.int z]) 50 1 := (Sh.list (n := 41) (k := 0) (ds := [.int z]) fun d hd => by rw [List.mem_singleton.mp hd]; exact Sh.big hz2).mono (Nat.le_of_ble_eq_true rfl) (by decide)
          refine rd_reprS (.lst (SqL.of hp1) (.cons (.int z) .nil)) shz (by decide) (by decide) ?_
          wtm_at "ev_go"
          intro q hq
          wtm_at "ev_go"
          refine rd_reprS (.lst (SqL.of upd_same) (.cons (.int z) .nil)) shz (by decide) (by decide) ?_
          wtm_at "ev_go"
          rw [if_neg (by simp)]
          wtm_at "ev_go"
          exact ⟨_, rfl, sm.trans (s2.trans (Same.new hq))⟩
        · rintro σ' H1 ⟨x8, rfl, sm⟩
          have smI := stw.trans sm
          have bkmJ := bkmI.mono smI
          have hRJ := hRI.mono smI
          obtain ⟨dxj, l0j, fsj, haj, hl0j, j1, j2, j3, j4, j5⟩ := id bkmJ
          wtm_at "ev_go"
          refine ⟨a, dxj, fsj, rfl, haj, j5, ?_⟩
          wtm_at "ev_go"
          refine ⟨a, 1, 0, lo, hi, R, rs, rfl, bkmJ, hRJ, hRl, lohi, fine, fun h => absurd h (by omega), fun _ => ⟨(by decide : (1 : Int).natAbs < 10 ^ 9), (by decide : (0 : Int).natAbs < 10 ^ 9), tlo, thi, small0, fun b7 R7 H7 s7 nb7 bk7 hR7 => ?_⟩⟩
          rw [Int.one_mul, Int.one_mul, Int.add_zero, Int.add_zero] at bk7
          rw [sc10] at hR7
          wtm_at "ev_go"
          have bkmK := bkmJ.mono s7
          obtain ⟨dx7, l07, fs7, ha7, hl07, _⟩ := id bk7
          obtain ⟨dxk, l0k, fsk, hak, hl0k, _⟩ := id bkmK
          refine ⟨⟨b7, a, dx7, dxk, fs7, fsk, rfl, rfl, ha7, hak, lo, hi, R7, R, rs, bk7, bkmK, hR7, hRJ.mono s7⟩, fun H8 s8 => ?_⟩
          wtm_at "ev_go"
          have s18 := (smI.trans s7).trans s8
          refine ⟨kd, l, lo, hi, R, rs, rfl, s18 _ _ hkdI, s18 _ _ hlI, hRI.mono s18, hRl, num_l, num_h, lohi, fine, fun c H9 s9 nc bkc => ?_⟩
          wtm_at "ev_go"
          have bkmL := (bkmK.mono s8).mono s9
          obtain ⟨dxc, l0c, fsc, hac, hl0c, _⟩ := id bkc
          obtain ⟨dxl, l0l, fsl, hal, hl0l, _⟩ := id bkmL
          have s19 := s18.trans s9
          refine ⟨⟨a, c, dxl, dxc, fsl, fsc, rfl, rfl, hal, hac, lo, hi, R, R, rs, bkmL, bkc, hRI.mono s19, hRI.mono s19⟩, fun H10 s10 => ?_⟩
          wtm_at "ev_go"
          exact k _ Ld3 (frI.same (s19.trans s10)) ((s19.trans s10) _ _ hpI) (hLd3.le (by omega))
end
/-! ### the law itself -/
def spLaw (K : PySem.W.Frag) : Sp := fun vs H Q _ => ∃ (a : Addr) (ns : List Int), vs = [.ref a] ∧ SqL K H a (ns.map V.int) ∧ ns.length ≤ 63 ∧ ∀ H', Q (.bl true) H'
section
variable {P : Program} {w : World} {K : PySem.W.Frag} {mg : Str → Option Value} {base : Heap}
theorem ok_law {f : Addr} {fd : FuncData} (F : Fun K "law" "law" s_law f fd) (T : Blt mg) (GP : CalN P w K mg base 1 "_law_pool" (spPool K)) (GR : CalG P w K mg base 8 "_law_right" spRight) : FnG P w K mg base CX0 9 f fd ["script"] (spLaw K) := by
  refine fnG_of F sc_law (fun vs H Q E h => ?_) (fun cdv A outer s H vs Q E hgu hr h => ?_)
  · obtain ⟨a, ns, rfl, _⟩ := h
    rfl
  · obtain ⟨a, ns, rfl, hS, hn, k⟩ := h
    refine ⟨_, (pss_cons (ps_for PassesOwn.never rfl (pi_range1 (by rfl) T.n_range (pa_cons (pe_callB (call_max2 rfl) (by rfl) T.n_max boot_max (pa_cons pe_int (pa_cons (pe_callB (call_min2 rfl) (by rfl) T.n_min boot_min (pa_cons pe_int (pa_cons (pe_callB call_len_seq (by rfl) T.n_len PySem.boot_len (pa_cons (pv 0) pa_nil)) pa_nil))) pa_nil))) pa_nil)) (pg_name (i := 1) sc_law.nd rfl (Or.inl rfl)) 
        (pss_cons (ps_set (i := 2) sc_law.nd rfl (Or.inl rfl) (pe_cN GP hr (by decide) (by rfl) (pa_cons (pv 0) (pa_cons (pv 1) pa_nil))))
        (pss_one (ps_for PassesOwn.never rfl (pi_range1 (by rfl) T.n_range (pa_cons pe_int pa_nil)) (pg_name (i := 3) sc_law.nd rfl (Or.inl rfl)) 
          (pss_one (ps_if (pt_not (pt_val (pe_cG GR hr (by decide) hgu (by rfl) (pa_cons (pv 2) pa_nil)))) 
            (pss_one (ps_ret pe_bl)) pss_nil))))))
      (pss_one (ps_ret pe_bl))), ?_⟩
    wtm_at "ev_go"
    generalize e : Int.toNat _ = n
    have n6 : n ≤ 6 := by
      rw [← e]
      generalize ((ns.map V.int).length : Int) = z
      by_cases z6 : z < 6
      · rw [if_pos z6]
        by_cases z1 : z > 1
        · rw [if_pos z1]
          omega
        · rw [if_neg z1]
          decide
      · rw [if_neg z6]
        decide
    clear e
    refine rd_forR (fun i σ H2 => ∃ (x1 x2 x3 : Option V), σ = [some (.ref a), x1, x2, x3] ∧ SqL K H2 a (ns.map V.int)) ⟨_, _, _, rfl, hS⟩ ?_ ?_
    · rintro i σ H2 hi ⟨x1, x2, x3, rfl, hS2⟩
      wtm_at "ev_go"
      refine ⟨a, ns, _, rfl, hS2, by omega, by omega, fun p L np hL => ?_⟩
      wtm_at "ev_go"
      refine rd_forR (fun j σ' H' => ∃ (x3 : Option V) (L' : List V), σ' = [some (.ref a), some (.int (0 + (i : Int))), some (.ref p), x3] ∧ Same H2 H' ∧ H' p = some (.lst L') ∧ PoolL L' ((j : Int) * 2000)) ⟨_, L, rfl, fun b o z => Same.new np b o z, upd_same, hL.le (by omega)⟩ ?_ ?_
      · rintro j σ' H' hj ⟨x3, L', rfl, ex, hp, hL'⟩
        wtm_at "ev_go"
        refine ⟨p, L', _, rfl, hp, hL', by omega, fun H3 L3 fr hp3 hL3 => ?_⟩
        wtm_at "ev_go"
        exact ⟨_, L3, rfl, fun b o z => fr b o (ex b o z) (ne_of_none z np), hp3, hL3.le (by omega)⟩
      · rintro σ' H' ⟨x3, L', rfl, ex, _⟩
        exact ⟨_, _, _, rfl, sqL_same hS2 ex⟩
    · rintro σ' H' ⟨x1, x2, x3, rfl, _⟩
      wtm_at "ev_go"
      exact k H'
end
end Ev

namespace Ev
open PySem PySem.Spec PyProof.Rows L2
/-! ### the end: what the written part says -/
theorem cls_mk {K : PySem.W.Frag} {h : Heap} {mg : Str → Option Value} {x : Str} {C fI : Addr} {nm q : Str} {N : Addr} {bs bm : List Value} {sl : List Str} {sub : List Value} {ab : Bool} {col : Option Bool} {dd : Option Addr} {m0 m1 m2 m3 m5 : Option Value} (X : K.In h) (G : h.Ns mainGlobals mg)
    (a : PySem.W.nsIn K mainGlobals x = some (some (.ref C)))
    (xl : K.lookup C = some (excClassObj nm q C N bs bm true sl sub ab col dd m0 m1 m2 m3 m5 "ValueError.__new__"))
    (rb : PySem.HandSPX.refsVE bm = true)
    (sa : PySem.W.findIn K (.ref C) "__setattr__" = some (some (.builtin "object.__setattr__")))
    (ec : PySem.W.subIn K (.ref C) (.type "BaseException") = some true)
    (ty : PySem.W.typeIn K (.ref C) = some (.type "type"))
    (kc : PySem.W.keepIn K (.ref C) = true)
    (i : PySem.W.findIn K (.ref C) "__init__" = some (some (.ref fI)))
    (t : PySem.W.typeIn K (.ref fI) = some (.type "function"))
    (ga : PySem.W.findIn K (.ref C) "__getattribute__" = some (some (.builtin "BaseException.__getattribute__")))
    (gg : PySem.W.findIn K (.ref C) "__getattr__" = some none)
    (hd : PySem.W.hasDictIn K C = true)
    (ac : PySem.W.findIn K (.ref C) "__class__" = some (some (.builtin "object.__class__")))
    (sn : PySem.W.specialIn K (.builtin "object.__class__") "__get__" = some (some (.builtin "getset_descriptor.__get__")))
    (tk : PySem.W.takesIn K (.builtin "object.__class__") = some true)
    (mr : PySem.W.mroIn K C (.type "object") = some true)
    (vn : PySem.W.findIn K (.ref C) "value" = some none) : ExT K mg x C fI :=
  ⟨⟨⟨nm, q, N, bs, bm, sl, sub, ab, col, dd, m0, m1, m2, m3, m5, xl, rb⟩, sa, ec, ty, kc⟩, i, t, PySem.W.mg_of X G a, ⟨ga, gg, ec, hd, ac, sn, tk, mr⟩, vn⟩
theorem gS2_rel {vs zs : List V} {us ws : List Value} (r1 : Vals vs us) (r2 : Vals zs ws) : Vals (gS2 vs zs) (gS2 us ws) := by
  cases r1 with
  | nil => exact .nil
  | cons h t =>
    cases t with
    | nil =>
      cases r2 with
      | nil => exact .nil
      | cons h1 t1 =>
        cases t1 with
        | nil => exact .nil
        | cons h2 t2 =>
          cases t2 with
          | nil => exact .cons h (.cons h2 (.cons h1 .nil))
          | cons _ _ => exact .nil
    | cons _ _ => exact .nil
section
variable {P : Program} {w : World} {K : PySem.W.Frag} {mg : Str → Option Value} {base : Heap} {fI : Addr}
theorem ok_init {fd : FuncData} (F : Fun K "__init__" "SpanError.__init__" s_SpanError_init fI fd) : FnOk P w K mg base CX0 1 fI fd ["self", "value"] (spInit K) := by
  refine F.ok sc_SpanError_init (fun vs H Q E h => ?_) (fun cdv A outer s H vs Q E hr h => ?_)
  · obtain ⟨a, C, v, rfl, _⟩ := h
    rfl
  · obtain ⟨a, C, v, rfl, ha, hc, hn, k⟩ := h
    refine ⟨_, pss_one (ps_ost (pv 0) (pv 1)), ?_⟩
    exact ⟨_, rfl, _, rfl, a, C, rfl, hc, hn, .inl ⟨ha, fun dx n ne => k dx n ne⟩⟩
end
theorem all_mk {P : Program} {w : World} {K : PySem.W.Frag} {h : Heap} {mg : Str → Option Value} {fa cD cR cB cS cN cL cW pLo pHi pRu fI fN fB fT fS fLo fHi fRu fQ g_is_rule g_lowest_most g_first_conflict g_first_exceeded g_law_pool g_law_draw g_law_kind g_law_made g_law_turned g_law_caught g_law_right g_law : Addr} (X : K.In h) (G : h.Ns mainGlobals mg) (hfa : mg "law" = some (.ref fa))
    {od0 an0 od1 an1 od2 an2 od3 an3 od4 an4 od5 an5 od6 an6 od7 an7 od8 an8 od9 an9 od10 an10 od11 an11 od12 an12 od13 an13 od14 an14 od15 an15 od16 an16 od17 an17 od18 an18 od19 an19 od20 an20 : Option Addr} {sl0 sl1 sl2 sl3 sl4 sl5 sl6 sl7 sl8 sl9 sl10 sl11 sl12 sl13 sl14 sl15 sl16 sl17 sl18 sl19 sl20 : Array (Option Value)} {oc0 kV0 dc0 pm0 cd0 ct0 oc1 kV1 dc1 pm1 cd1 ct1 oc2 kV2 dc2 pm2 cd2 ct2 oc3 kV3 dc3 pm3 cd3 ct3 oc4 kV4 dc4 pm4 cd4 ct4 oc5 kV5 dc5 pm5 cd5 ct5 oc6 kV6 dc6 pm6 cd6 ct6 oc7 kV7 dc7 pm7 cd7 ct7 oc8 kV8 dc8 pm8 cd8 ct8 oc9 kV9 dc9 pm9 cd9 ct9 oc10 kV10 dc10 pm10 cd10 ct10 oc11 kV11 dc11 pm11 cd11 ct11 oc12 kV12 dc12 pm12 cd12 ct12 oc13 kV13 dc13 pm13 cd13 ct13 oc14 kV14 dc14 pm14 cd14 ct14 oc15 kV15 dc15 pm15 cd15 ct15 oc16 kV16 dc16 pm16 cd16 ct16 oc17 kV17 dc17 pm17 cd17 ct17 oc18 kV18 dc18 pm18 cd18 ct18 oc19 kV19 dc19 pm19 cd19 ct19 oc20 kV20 dc20 pm20 cd20 ct20 : Value}
    (eD : ExT K mg "InvalidDays" cD fI)
    (eR : ExT K mg "InvalidRule" cR fI)
    (eN : ExT K mg "InvalidNumber" cN fI)
    (a_SpanError : PySem.W.nsIn K mainGlobals "SpanError" = some (some (.ref cS)))
    (a_InvalidLength : PySem.W.nsIn K mainGlobals "InvalidLength" = some (some (.ref cL)))
    (a_NoRows : PySem.W.nsIn K mainGlobals "NoRows" = some (some (.ref cW)))
    (s1 : PySem.W.subIn K (.ref cS) (.type "BaseException") = some true)
    (s2 : PySem.W.hasDictIn K cS = true)
    (s3 : PySem.W.typeIn K (.ref cS) = some (.type "type"))
    (sN : PySem.W.subIn K (.ref cN) (.ref cS) = some true)
    (n4a : PySem.W.kitAny K (.ref cN) [.ref cD, .ref cR, .ref cL, .ref cW] = some false)
    (nNa : PySem.W.kitOne K (.ref cN) (.ref cN) = some true)
    (aB : PySem.W.nsIn K mainGlobals "Book" = some (some (.ref cB)))
    (bm : PySem.W.makesIn K cB = true)
    (bi : PySem.W.findIn K (.ref cB) "__init__" = some (some (.ref fN)))
    (bf : PySem.W.isFn K (.ref fN) = true)
    (bk : PySem.W.keepIn K (.ref cB) = true)
    (pg : PySem.W.plainGet K cB Str.empty = true)
    (hd : PySem.W.hasDictIn K cB = true)
    (po : PySem.W.plainOver K cB = true)
    (sa : PySem.W.findIn K (.ref cB) "__setattr__" = some (some (.builtin "object.__setattr__")))
    (n1 : PySem.W.findIn K (.ref cB) "_low" = some none)
    (n2 : PySem.W.findIn K (.ref cB) "_high" = some none)
    (n3 : PySem.W.findIn K (.ref cB) "_rules" = some none)
    (n4 : PySem.W.findIn K (.ref cB) "_conflict" = some none)
    (n5 : PySem.W.findIn K (.ref cB) "_sums" = some none)
    (n6 : PySem.W.findIn K (.ref cB) "_spots" = some none)
    (m_fB : PySem.W.findIn K (.ref cB) "bounds" = some (some (.ref fB)))
    (i_fB : PySem.W.isFn K (.ref fB) = true)
    (m_fT : PySem.W.findIn K (.ref cB) "turned" = some (some (.ref fT)))
    (i_fT : PySem.W.isFn K (.ref fT) = true)
    (m_fS : PySem.W.findIn K (.ref cB) "scaled" = some (some (.ref fS)))
    (i_fS : PySem.W.isFn K (.ref fS) = true)
    (m_fQ : PySem.W.findIn K (.ref cB) "__eq__" = some (some (.ref fQ)))
    (i_fQ : PySem.W.isFn K (.ref fQ) = true)
    (m_fLo : PySem.W.findIn K (.ref cB) "low" = some (some (.ref pLo)))
    (g_fLo : PySem.W.specialIn K (.ref pLo) "__get__" = some (some (.builtin "property.__get__")))
    (t_fLo : PySem.W.takesIn K (.ref pLo) = some true)
    {rest_fLo : List Value}
    (r_fLo : PySem.W.recIn K pLo "property" = some (.ref fLo :: rest_fLo))
    (m_fHi : PySem.W.findIn K (.ref cB) "high" = some (some (.ref pHi)))
    (g_fHi : PySem.W.specialIn K (.ref pHi) "__get__" = some (some (.builtin "property.__get__")))
    (t_fHi : PySem.W.takesIn K (.ref pHi) = some true)
    {rest_fHi : List Value}
    (r_fHi : PySem.W.recIn K pHi "property" = some (.ref fHi :: rest_fHi))
    (m_fRu : PySem.W.findIn K (.ref cB) "rules" = some (some (.ref pRu)))
    (g_fRu : PySem.W.specialIn K (.ref pRu) "__get__" = some (some (.builtin "property.__get__")))
    (t_fRu : PySem.W.takesIn K (.ref pRu) = some true)
    {rest_fRu : List Value}
    (r_fRu : PySem.W.recIn K pRu "property" = some (.ref fRu :: rest_fRu))
    (q1 : PySem.W.findIn K (.ref cB) "__class__" = some (some (.builtin "object.__class__")))
    (q2 : PySem.W.specialIn K (.builtin "object.__class__") "__get__" = some (some (.builtin "getset_descriptor.__get__")))
    (q3 : PySem.W.takesIn K (.builtin "object.__class__") = some true)
    (q4 : PySem.W.mroIn K cB (.type "object") = some true)
    (kBB : PySem.W.kitOne K (.ref cB) (.ref cB) = some true)
    (l0 : K.lookup fI = some ⟨oc0, od0, .func (PySem.W.fnOf "__init__" "SpanError.__init__" (defArgs s_SpanError_init) (defBody s_SpanError_init) (defScope s_SpanError_init) .none kV0 dc0 pm0 an0 cd0 ct0), sl0⟩)
    (u0 : PySem.W.codeIn K cd0 "SpanError.__init__" = true)
    (k0 : PySem.W.keepIn K (.ref fI) = true)
    (l1 : K.lookup fN = some ⟨oc1, od1, .func (PySem.W.fnOf "__init__" "Book.__init__" (defArgs s_Book_init) (defBody s_Book_init) (defScope s_Book_init) .none kV1 dc1 pm1 an1 cd1 ct1), sl1⟩)
    (u1 : PySem.W.codeIn K cd1 "Book.__init__" = true)
    (k1 : PySem.W.keepIn K (.ref fN) = true)
    (l2 : K.lookup fB = some ⟨oc2, od2, .func (PySem.W.fnOf "bounds" "Book.bounds" (defArgs s_Book_bounds) (defBody s_Book_bounds) (defScope s_Book_bounds) .none kV2 dc2 pm2 an2 cd2 ct2), sl2⟩)
    (u2 : PySem.W.codeIn K cd2 "Book.bounds" = true)
    (k2 : PySem.W.keepIn K (.ref fB) = true)
    (l3 : K.lookup fT = some ⟨oc3, od3, .func (PySem.W.fnOf "turned" "Book.turned" (defArgs s_Book_turned) (defBody s_Book_turned) (defScope s_Book_turned) .none kV3 dc3 pm3 an3 cd3 ct3), sl3⟩)
    (u3 : PySem.W.codeIn K cd3 "Book.turned" = true)
    (k3 : PySem.W.keepIn K (.ref fT) = true)
    (l4 : K.lookup fS = some ⟨oc4, od4, .func (PySem.W.fnOf "scaled" "Book.scaled" (defArgs s_Book_scaled) (defBody s_Book_scaled) (defScope s_Book_scaled) .none kV4 dc4 pm4 an4 cd4 ct4), sl4⟩)
    (u4 : PySem.W.codeIn K cd4 "Book.scaled" = true)
    (k4 : PySem.W.keepIn K (.ref fS) = true)
    (l5 : K.lookup fLo = some ⟨oc5, od5, .func (PySem.W.fnOf "low" "Book.low" (defArgs s_Book_low) (defBody s_Book_low) (defScope s_Book_low) .none kV5 dc5 pm5 an5 cd5 ct5), sl5⟩)
    (u5 : PySem.W.codeIn K cd5 "Book.low" = true)
    (k5 : PySem.W.keepIn K (.ref fLo) = true)
    (l6 : K.lookup fHi = some ⟨oc6, od6, .func (PySem.W.fnOf "high" "Book.high" (defArgs s_Book_high) (defBody s_Book_high) (defScope s_Book_high) .none kV6 dc6 pm6 an6 cd6 ct6), sl6⟩)
    (u6 : PySem.W.codeIn K cd6 "Book.high" = true)
    (k6 : PySem.W.keepIn K (.ref fHi) = true)
    (l7 : K.lookup fRu = some ⟨oc7, od7, .func (PySem.W.fnOf "rules" "Book.rules" (defArgs s_Book_rules) (defBody s_Book_rules) (defScope s_Book_rules) .none kV7 dc7 pm7 an7 cd7 ct7), sl7⟩)
    (u7 : PySem.W.codeIn K cd7 "Book.rules" = true)
    (k7 : PySem.W.keepIn K (.ref fRu) = true)
    (l8 : K.lookup fQ = some ⟨oc8, od8, .func (PySem.W.fnOf "__eq__" "Book.__eq__" (defArgs s_Book_eq) (defBody s_Book_eq) (defScope s_Book_eq) .none kV8 dc8 pm8 an8 cd8 ct8), sl8⟩)
    (u8 : PySem.W.codeIn K cd8 "Book.__eq__" = true)
    (k8 : PySem.W.keepIn K (.ref fQ) = true)
    (p9 : PySem.W.nsIn K mainGlobals "is_rule" = some (some (.ref g_is_rule)))
    (l9 : K.lookup g_is_rule = some ⟨oc9, od9, .func (PySem.W.fnOf "is_rule" "is_rule" (defArgs s_is_rule) (defBody s_is_rule) (defScope s_is_rule) .none kV9 dc9 pm9 an9 cd9 ct9), sl9⟩)
    (u9 : PySem.W.codeIn K cd9 "is_rule" = true)
    (k9 : PySem.W.keepIn K (.ref g_is_rule) = true)
    (p10 : PySem.W.nsIn K mainGlobals "lowest_most" = some (some (.ref g_lowest_most)))
    (l10 : K.lookup g_lowest_most = some ⟨oc10, od10, .func (PySem.W.fnOf "lowest_most" "lowest_most" (defArgs s_lowest_most) (defBody s_lowest_most) (defScope s_lowest_most) .none kV10 dc10 pm10 an10 cd10 ct10), sl10⟩)
    (u10 : PySem.W.codeIn K cd10 "lowest_most" = true)
    (k10 : PySem.W.keepIn K (.ref g_lowest_most) = true)
    (p11 : PySem.W.nsIn K mainGlobals "first_conflict" = some (some (.ref g_first_conflict)))
    (l11 : K.lookup g_first_conflict = some ⟨oc11, od11, .func (PySem.W.fnOf "first_conflict" "first_conflict" (defArgs s_first_conflict) (defBody s_first_conflict) (defScope s_first_conflict) .none kV11 dc11 pm11 an11 cd11 ct11), sl11⟩)
    (u11 : PySem.W.codeIn K cd11 "first_conflict" = true)
    (k11 : PySem.W.keepIn K (.ref g_first_conflict) = true)
    (p12 : PySem.W.nsIn K mainGlobals "first_exceeded" = some (some (.ref g_first_exceeded)))
    (l12 : K.lookup g_first_exceeded = some ⟨oc12, od12, .func (PySem.W.fnOf "first_exceeded" "first_exceeded" (defArgs s_first_exceeded) (defBody s_first_exceeded) (defScope s_first_exceeded) .none kV12 dc12 pm12 an12 cd12 ct12), sl12⟩)
    (u12 : PySem.W.codeIn K cd12 "first_exceeded" = true)
    (k12 : PySem.W.keepIn K (.ref g_first_exceeded) = true)
    (p13 : PySem.W.nsIn K mainGlobals "_law_pool" = some (some (.ref g_law_pool)))
    (l13 : K.lookup g_law_pool = some ⟨oc13, od13, .func (PySem.W.fnOf "_law_pool" "_law_pool" (defArgs s_pool) (defBody s_pool) (defScope s_pool) .none kV13 dc13 pm13 an13 cd13 ct13), sl13⟩)
    (u13 : PySem.W.codeIn K cd13 "_law_pool" = true)
    (k13 : PySem.W.keepIn K (.ref g_law_pool) = true)
    (p14 : PySem.W.nsIn K mainGlobals "_law_draw" = some (some (.ref g_law_draw)))
    (l14 : K.lookup g_law_draw = some ⟨oc14, od14, .func (PySem.W.fnOf "_law_draw" "_law_draw" (defArgs s_draw) (defBody s_draw) (defScope s_draw) .none kV14 dc14 pm14 an14 cd14 ct14), sl14⟩)
    (u14 : PySem.W.codeIn K cd14 "_law_draw" = true)
    (k14 : PySem.W.keepIn K (.ref g_law_draw) = true)
    (p15 : PySem.W.nsIn K mainGlobals "_law_kind" = some (some (.ref g_law_kind)))
    (l15 : K.lookup g_law_kind = some ⟨oc15, od15, .func (PySem.W.fnOf "_law_kind" "_law_kind" (defArgs s_kind) (defBody s_kind) (defScope s_kind) .none kV15 dc15 pm15 an15 cd15 ct15), sl15⟩)
    (u15 : PySem.W.codeIn K cd15 "_law_kind" = true)
    (k15 : PySem.W.keepIn K (.ref g_law_kind) = true)
    (p16 : PySem.W.nsIn K mainGlobals "_law_made" = some (some (.ref g_law_made)))
    (l16 : K.lookup g_law_made = some ⟨oc16, od16, .func (PySem.W.fnOf "_law_made" "_law_made" (defArgs s_made) (defBody s_made) (defScope s_made) .none kV16 dc16 pm16 an16 cd16 ct16), sl16⟩)
    (u16 : PySem.W.codeIn K cd16 "_law_made" = true)
    (k16 : PySem.W.keepIn K (.ref g_law_made) = true)
    (p17 : PySem.W.nsIn K mainGlobals "_law_turned" = some (some (.ref g_law_turned)))
    (l17 : K.lookup g_law_turned = some ⟨oc17, od17, .func (PySem.W.fnOf "_law_turned" "_law_turned" (defArgs s_turned) (defBody s_turned) (defScope s_turned) .none kV17 dc17 pm17 an17 cd17 ct17), sl17⟩)
    (u17 : PySem.W.codeIn K cd17 "_law_turned" = true)
    (k17 : PySem.W.keepIn K (.ref g_law_turned) = true)
    (p18 : PySem.W.nsIn K mainGlobals "_law_caught" = some (some (.ref g_law_caught)))
    (l18 : K.lookup g_law_caught = some ⟨oc18, od18, .func (PySem.W.fnOf "_law_caught" "_law_caught" (defArgs s_caught) (defBody s_caught) (defScope s_caught) .none kV18 dc18 pm18 an18 cd18 ct18), sl18⟩)
    (u18 : PySem.W.codeIn K cd18 "_law_caught" = true)
    (k18 : PySem.W.keepIn K (.ref g_law_caught) = true)
    (p19 : PySem.W.nsIn K mainGlobals "_law_right" = some (some (.ref g_law_right)))
    (l19 : K.lookup g_law_right = some ⟨oc19, od19, .func (PySem.W.fnOf "_law_right" "_law_right" (defArgs s_right) (defBody s_right) (defScope s_right) .none kV19 dc19 pm19 an19 cd19 ct19), sl19⟩)
    (u19 : PySem.W.codeIn K cd19 "_law_right" = true)
    (k19 : PySem.W.keepIn K (.ref g_law_right) = true)
    (p20 : PySem.W.nsIn K mainGlobals "law" = some (some (.ref g_law)))
    (l20 : K.lookup g_law = some ⟨oc20, od20, .func (PySem.W.fnOf "law" "law" (defArgs s_law) (defBody s_law) (defScope s_law) .none kV20 dc20 pm20 an20 cd20 ct20), sl20⟩)
    (u20 : PySem.W.codeIn K cd20 "law" = true)
    (k20 : PySem.W.keepIn K (.ref g_law) = true)
    (z_int : PySem.W.nsIn K mainGlobals "int" = some none)
    (z_max : PySem.W.nsIn K mainGlobals "max" = some none)
    (z_min : PySem.W.nsIn K mainGlobals "min" = some none)
    (z_abs : PySem.W.nsIn K mainGlobals "abs" = some none)
    (z_len : PySem.W.nsIn K mainGlobals "len" = some none)
    (z_repr : PySem.W.nsIn K mainGlobals "repr" = some none)
    (z_isinstance : PySem.W.nsIn K mainGlobals "isinstance" = some none)
    (z_range : PySem.W.nsIn K mainGlobals "range" = some none)
    (z_str : PySem.W.nsIn K mainGlobals "str" = some none)
    (z_list : PySem.W.nsIn K mainGlobals "list" = some none)
    (z_enumerate : PySem.W.nsIn K mainGlobals "enumerate" = some none)
    (z_ValueError : PySem.W.nsIn K mainGlobals "ValueError" = some none) :
    ∃ fd : FuncData, (∀ (s : PySem.Shared) (u : Value), BindsTo s fd ⟨[u], []⟩ [("script", u)]) ∧ ∀ base : Heap, K.In base → base.Ns mainGlobals mg → FnG P w K mg base CX0 9 fa fd ["script"] (spLaw K) := by
  have e := hfa.symm.trans (PySem.W.mg_of X G p20)
  cases e
  have F0 := fun_mk (st := s_SpanError_init) l0 u0 k0
  have b0 := F0.binds (ps := ["self", "value"]) fun _ _ _ _ _ _ us hl => match us, hl with | [_, _], _ => rfl
  have F1 := fun_mk (st := s_Book_init) l1 u1 k1
  have b1 := F1.binds (ps := ["self", "low", "high", "rules"]) fun _ _ _ _ _ _ us hl => match us, hl with | [_, _, _, _], _ => rfl
  have F2 := fun_mk (st := s_Book_bounds) l2 u2 k2
  have b2 := F2.binds (ps := ["self"]) fun _ _ _ _ _ _ us hl => match us, hl with | [_], _ => rfl
  have F3 := fun_mk (st := s_Book_turned) l3 u3 k3
  have b3 := F3.binds (ps := ["self"]) fun _ _ _ _ _ _ us hl => match us, hl with | [_], _ => rfl
  have F4 := fun_mk (st := s_Book_scaled) l4 u4 k4
  have b4 := F4.binds (ps := ["self", "factor", "shift"]) fun _ _ _ _ _ _ us hl => match us, hl with | [_, _, _], _ => rfl
  have F5 := fun_mk (st := s_Book_low) l5 u5 k5
  have b5 := F5.binds (ps := ["self"]) fun _ _ _ _ _ _ us hl => match us, hl with | [_], _ => rfl
  have F6 := fun_mk (st := s_Book_high) l6 u6 k6
  have b6 := F6.binds (ps := ["self"]) fun _ _ _ _ _ _ us hl => match us, hl with | [_], _ => rfl
  have F7 := fun_mk (st := s_Book_rules) l7 u7 k7
  have b7 := F7.binds (ps := ["self"]) fun _ _ _ _ _ _ us hl => match us, hl with | [_], _ => rfl
  have F8 := fun_mk (st := s_Book_eq) l8 u8 k8
  have b8 := F8.binds (ps := ["self", "other"]) fun _ _ _ _ _ _ us hl => match us, hl with | [_, _], _ => rfl
  have F9 := fun_mk (st := s_is_rule) l9 u9 k9
  have b9 := F9.binds (ps := ["rule"]) fun _ _ _ _ _ _ us hl => match us, hl with | [_], _ => rfl
  have F10 := fun_mk (st := s_lowest_most) l10 u10 k10
  have b10 := F10.binds (ps := ["bounds"]) fun _ _ _ _ _ _ us hl => match us, hl with | [_], _ => rfl
  have F11 := fun_mk (st := s_first_conflict) l11 u11 k11
  have b11 := F11.binds (ps := ["bounds"]) fun _ _ _ _ _ _ us hl => match us, hl with | [_], _ => rfl
  have F12 := fun_mk (st := s_first_exceeded) l12 u12 k12
  have b12 := F12.binds (ps := ["bounds", "width", "least"]) fun _ _ _ _ _ _ us hl => match us, hl with | [_, _, _], _ => rfl
  have F13 := fun_mk (st := s_pool) l13 u13 k13
  have b13 := F13.binds (ps := ["script", "spot"]) fun _ _ _ _ _ _ us hl => match us, hl with | [_, _], _ => rfl
  have F14 := fun_mk (st := s_draw) l14 u14 k14
  have b14 := F14.binds (ps := ["pool", "many"]) fun _ _ _ _ _ _ us hl => match us, hl with | [_, _], _ => rfl
  have F15 := fun_mk (st := s_kind) l15 u15 k15
  have b15 := F15.binds (ps := ["pool", "wide", "often"]) fun _ _ _ _ _ _ us hl => match us, hl with | [_, _, _], _ => rfl
  have F16 := fun_mk (st := s_made) l16 u16 k16
  have b16 := F16.binds (ps := ["kind"]) fun _ _ _ _ _ _ us hl => match us, hl with | [_], _ => rfl
  have F17 := fun_mk (st := s_turned) l17 u17 k17
  have b17 := F17.binds (ps := ["kind"]) fun _ _ _ _ _ _ us hl => match us, hl with | [_], _ => rfl
  have F18 := fun_mk (st := s_caught) l18 u18 k18
  have b18 := F18.binds (ps := ["made", "often", "more"]) fun _ _ _ _ _ _ us hl => match us, hl with | [_, _, _], _ => rfl
  have F19 := fun_mk (st := s_right) l19 u19 k19
  have b19 := F19.binds (ps := ["pool"]) fun _ _ _ _ _ _ us hl => match us, hl with | [_], _ => rfl
  have F20 := fun_mk (st := s_law) l20 u20 k20
  refine ⟨PySem.W.fnOf "law" "law" (defArgs s_law) (defBody s_law) (defScope s_law) .none kV20 dc20 pm20 an20 cd20 ct20, fun s u => .of_eq rfl, fun base _ _ => ?_⟩
  have tb : TxB K mg fI cD cR cB fB fN := ⟨⟨PySem.W.mg_none_of X G z_int, PySem.W.mg_none_of X G z_max, PySem.W.mg_none_of X G z_min, PySem.W.mg_none_of X G z_abs, PySem.W.mg_none_of X G z_len, PySem.W.mg_none_of X G z_repr, PySem.W.mg_none_of X G z_isinstance, PySem.W.mg_none_of X G z_range, PySem.W.mg_none_of X G z_str, PySem.W.mg_none_of X G z_list, PySem.W.mg_none_of X G z_enumerate, PySem.W.mg_none_of X G z_ValueError⟩, eD, eR, ⟨pg, hd, po, sa⟩, n1, n2, n3, n4, n5, n6, ⟨m_fB, i_fB, k2⟩, ⟨bm, bi, bf, bk⟩, PySem.W.mg_of X G aB⟩
  have Y4 : TxV K mg fI cN cS cD cR cL cW := ⟨eN, PySem.W.mg_of X G a_SpanError, eD.g, eR.g, PySem.W.mg_of X G a_InvalidLength, PySem.W.mg_of X G a_NoRows, PySem.W.exm_ref s1 s2 s3 sN, n4a, nNa⟩
  have GI : FnOk P w K mg base CX0 1 fI _ ["self", "value"] (spInit K) := ok_init F0
  have GR : CalN P w K mg base 1 "is_rule" spIsRule := ⟨g_is_rule, _, _, ok_is_rule F9, PySem.W.mg_of X G p9, k9, b9⟩
  have GL : CalN P w K mg base 1 "lowest_most" (spLow K) := ⟨g_lowest_most, _, _, ok_lowest F10 tb.b, PySem.W.mg_of X G p10, k10, b10⟩
  have GE : CalN P w K mg base 1 "first_exceeded" (spExc K) := ⟨g_first_exceeded, _, _, ok_exceeded F12 tb.b, PySem.W.mg_of X G p12, k12, b12⟩
  have GC : CalN P w K mg base 2 "first_conflict" (spConf K) := ⟨g_first_conflict, _, _, ok_conflict F11 tb.b GL GE, PySem.W.mg_of X G p11, k11, b11⟩
  have GB : FnOk P w K mg base CX0 1 fB _ ["self"] (spBnd cB) := ok_bounds F2 tb
  have GN := ok_binit (P := P) (w := w) (mg := mg) (base := base) F1 tb GI b0 GR GC GB b2
  have GU := ok_turned (P := P) (w := w) (mg := mg) (base := base) F3 tb GN b1
  have GS := ok_scaled (P := P) (w := w) (mg := mg) (base := base) F4 tb eN GI b0 GN b1
  have G5 := ok_low (P := P) (w := w) (mg := mg) (base := base) F5 tb
  have G6 := ok_high (P := P) (w := w) (mg := mg) (base := base) F6 tb
  have G7 := ok_rules (P := P) (w := w) (mg := mg) (base := base) F7 tb
  have G8 := ok_eq (P := P) (w := w) (mg := mg) (base := base) F8 tb kBB (fun a dx fs H e => .base (.ins e tb.cls q1 q2 q3 q4))
  have kS : KBn K _ ["self", "factor", "shift"] 1 ["shift", "factor"] gS2 gS2 := ⟨fun s us ws _ l1 l2 => match us, ws, l1, l2 with | [a], [x, y], _, _ => BindsTo.of_eq (s := s) (fd := PySem.W.fnOf "scaled" "Book.scaled" (defArgs s_Book_scaled) (defBody s_Book_scaled) (defScope s_Book_scaled) .none kV4 dc4 pm4 an4 cd4 ct4) rfl, gS2_rel⟩
  have GP : CalN P w K mg base 1 "_law_pool" (spPool K) := ⟨g_law_pool, _, _, ok_pool F13 tb.b, PySem.W.mg_of X G p13, k13, b13⟩
  have GD : CalN P w K mg base 1 "_law_draw" spDraw := ⟨g_law_draw, _, _, ok_draw F14 tb.b, PySem.W.mg_of X G p14, k14, b14⟩
  have GK : CalN P w K mg base 2 "_law_kind" spKind := ⟨g_law_kind, _, _, ok_kind F15 tb.b GD, PySem.W.mg_of X G p15, k15, b15⟩
  have GM : CalN P w K mg base 6 "_law_made" (spMade cB) := ⟨g_law_made, _, _, ok_made F16 tb GN b1, PySem.W.mg_of X G p16, k16, b16⟩
  have GT : CalN P w K mg base 1 "_law_turned" spLTurned := ⟨g_law_turned, _, _, ok_lturned F17 tb.b, PySem.W.mg_of X G p17, k17, b17⟩
  have GX : CalN P w K mg base 7 "_law_caught" (spCaught cB) := ⟨g_law_caught, _, _, ok_caught F18 tb Y4 GS ⟨m_fS, i_fS, k4⟩ kS, PySem.W.mg_of X G p18, k18, b18⟩
  have GZ : CalG P w K mg base 8 "_law_right" spRight := ⟨g_law_right, _, _, ok_right F19 tb GD GK GM GT GX ⟨m_fT, i_fT, k3⟩ GU b3 ⟨m_fS, i_fS, k4⟩ GS b4 ⟨m_fLo, g_fLo, t_fLo, _, r_fLo⟩ G5 b5 ⟨m_fHi, g_fHi, t_fHi, _, r_fHi⟩ G6 b6 ⟨m_fRu, g_fRu, t_fRu, _, r_fRu⟩ G7 b7 G8 m_fQ i_fQ b8, PySem.W.mg_of X G p19, k19, b19⟩
  exact ok_law F20 tb.b GP GZ

end Ev

open PySem PySem.W PyProof.Rows
set_option maxRecDepth 100000 in
set_option maxHeartbeats 0 in
theorem PySem.Challenge.cw_everyspan_k04_books_turned_and_scaled_holds : PySem.Challenge.rw_everyspan_k04_books_turned_and_scaled.Holds := by
  w_on; o_law; k_head; (case hw => w_witness2)
  k_fill
  refine Ev.walk_ofG (l := PySem.Challenge.rw_everyspan_k04_books_turned_and_scaled) (n := 63) (k := 9) (x := "script") (sp := Ev.spLaw) rfl (by decide) rfl ⟨rfl, by decide, by decide⟩ (fun w h Y => PySem.W.kIn_of Y) ?F ?hsp
  case hsp => exact fun K H a ns hl hS => ⟨a, ns, rfl, hS, hl, fun _ => rfl⟩
  case F =>
    intro w mg fa h KX G hmg
    refine' Ev.all_mk KX G hmg ?o_eD ?o_eR ?o_eN ?o_a_SpanError ?o_a_InvalidLength ?o_a_NoRows ?o_s1 ?o_s2 ?o_s3 ?o_sN ?o_n4a ?o_nNa ?o_aB ?o_bm ?o_bi ?o_bf ?o_bk ?o_pg ?o_hd ?o_po ?o_sa ?o_n1 ?o_n2 ?o_n3 ?o_n4 ?o_n5 ?o_n6 ?o_m_fB ?o_i_fB ?o_m_fT ?o_i_fT ?o_m_fS ?o_i_fS ?o_m_fQ ?o_i_fQ ?o_m_fLo ?o_g_fLo ?o_t_fLo ?o_r_fLo ?o_m_fHi ?o_g_fHi ?o_t_fHi ?o_r_fHi ?o_m_fRu ?o_g_fRu ?o_t_fRu ?o_r_fRu ?o_q1 ?o_q2 ?o_q3 ?o_q4 ?o_kBB ?o_l0 ?o_u0 ?o_k0 ?o_l1 ?o_u1 ?o_k1 ?o_l2 ?o_u2 ?o_k2 ?o_l3 ?o_u3 ?o_k3 ?o_l4 ?o_u4 ?o_k4 ?o_l5 ?o_u5 ?o_k5 ?o_l6 ?o_u6 ?o_k6 ?o_l7 ?o_u7 ?o_k7 ?o_l8 ?o_u8 ?o_k8 ?o_p9 ?o_l9 ?o_u9 ?o_k9 ?o_p10 ?o_l10 ?o_u10 ?o_k10 ?o_p11 ?o_l11 ?o_u11 ?o_k11 ?o_p12 ?o_l12 ?o_u12 ?o_k12 ?o_p13 ?o_l13 ?o_u13 ?o_k13 ?o_p14 ?o_l14 ?o_u14 ?o_k14 ?o_p15 ?o_l15 ?o_u15 ?o_k15 ?o_p16 ?o_l16 ?o_u16 ?o_k16 ?o_p17 ?o_l17 ?o_u17 ?o_k17 ?o_p18 ?o_l18 ?o_u18 ?o_k18 ?o_p19 ?o_l19 ?o_u19 ?o_k19 ?o_p20 ?o_l20 ?o_u20 ?o_k20 ?o_z_int ?o_z_max ?o_z_min ?o_z_abs ?o_z_len ?o_z_repr ?o_z_isinstance ?o_z_range ?o_z_str ?o_z_list ?o_z_enumerate ?o_z_ValueError
    (case o_eD => refine' Ev.cls_mk KX G ?a ?xl ?rb ?sa ?ec ?ty ?kc ?i ?t ?ga ?gg ?hd ?ac ?sn ?tk ?mr ?vn; (case a => k_is); (case xl => k_is); (case rb => decide +kernel); (case sa => k_is); (case ec => k_is); (case ty => k_is); (case kc => k_is); (case i => k_is); (case t => k_is); (case ga => k_is); (case gg => k_is); (case hd => k_is); (case ac => k_is); (case sn => k_is); (case tk => k_is); (case mr => k_is); (case vn => k_is))
    (case o_eR => refine' Ev.cls_mk KX G ?a ?xl ?rb ?sa ?ec ?ty ?kc ?i ?t ?ga ?gg ?hd ?ac ?sn ?tk ?mr ?vn; (case a => k_is); (case xl => k_is); (case rb => decide +kernel); (case sa => k_is); (case ec => k_is); (case ty => k_is); (case kc => k_is); (case i => k_is); (case t => k_is); (case ga => k_is); (case gg => k_is); (case hd => k_is); (case ac => k_is); (case sn => k_is); (case tk => k_is); (case mr => k_is); (case vn => k_is))
    (case o_eN => refine' Ev.cls_mk KX G ?a ?xl ?rb ?sa ?ec ?ty ?kc ?i ?t ?ga ?gg ?hd ?ac ?sn ?tk ?mr ?vn; (case a => k_is); (case xl => k_is); (case rb => decide +kernel); (case sa => k_is); (case ec => k_is); (case ty => k_is); (case kc => k_is); (case i => k_is); (case t => k_is); (case ga => k_is); (case gg => k_is); (case hd => k_is); (case ac => k_is); (case sn => k_is); (case tk => k_is); (case mr => k_is); (case vn => k_is))
    (case o_a_SpanError => k_is)
    (case o_a_InvalidLength => k_is)
    (case o_a_NoRows => k_is)
    (case o_s1 => k_is)
    (case o_s2 => k_is)
    (case o_s3 => k_is)
    (case o_sN => k_is)
    (case o_n4a => kit_is)
    (case o_nNa => kit_is)
    (case o_aB => k_is)
    (case o_bm => k_is)
    (case o_bi => k_is)
    (case o_bf => k_is)
    (case o_bk => k_is)
    (case o_pg => k_is)
    (case o_hd => k_is)
    (case o_po => k_is)
    (case o_sa => k_is)
    (case o_n1 => k_is)
    (case o_n2 => k_is)
    (case o_n3 => k_is)
    (case o_n4 => k_is)
    (case o_n5 => k_is)
    (case o_n6 => k_is)
    (case o_m_fB => k_is)
    (case o_i_fB => k_is)
    (case o_m_fT => k_is)
    (case o_i_fT => k_is)
    (case o_m_fS => k_is)
    (case o_i_fS => k_is)
    (case o_m_fQ => k_is)
    (case o_i_fQ => k_is)
    (case o_m_fLo => k_is)
    (case o_g_fLo => k_is)
    (case o_t_fLo => k_is)
    (case o_r_fLo => k_is)
    (case o_m_fHi => k_is)
    (case o_g_fHi => k_is)
    (case o_t_fHi => k_is)
    (case o_r_fHi => k_is)
    (case o_m_fRu => k_is)
    (case o_g_fRu => k_is)
    (case o_t_fRu => k_is)
    (case o_r_fRu => k_is)
    (case o_q1 => k_is)
    (case o_q2 => k_is)
    (case o_q3 => k_is)
    (case o_q4 => k_is)
    (case o_kBB => kit_is)
    (case o_l0 => k_is)
    (case o_u0 => k_is)
    (case o_k0 => k_is)
    (case o_l1 => k_is)
    (case o_u1 => k_is)
    (case o_k1 => k_is)
    (case o_l2 => k_is)
    (case o_u2 => k_is)
    (case o_k2 => k_is)
    (case o_l3 => k_is)
    (case o_u3 => k_is)
    (case o_k3 => k_is)
    (case o_l4 => k_is)
    (case o_u4 => k_is)
    (case o_k4 => k_is)
    (case o_l5 => k_is)
    (case o_u5 => k_is)
    (case o_k5 => k_is)
    (case o_l6 => k_is)
    (case o_u6 => k_is)
    (case o_k6 => k_is)
    (case o_l7 => k_is)
    (case o_u7 => k_is)
    (case o_k7 => k_is)
    (case o_l8 => k_is)
    (case o_u8 => k_is)
    (case o_k8 => k_is)
    (case o_p9 => k_is)
    (case o_l9 => k_is)
    (case o_u9 => k_is)
    (case o_k9 => k_is)
    (case o_p10 => k_is)
    (case o_l10 => k_is)
    (case o_u10 => k_is)
    (case o_k10 => k_is)
    (case o_p11 => k_is)
    (case o_l11 => k_is)
    (case o_u11 => k_is)
    (case o_k11 => k_is)
    (case o_p12 => k_is)
    (case o_l12 => k_is)
    (case o_u12 => k_is)
    (case o_k12 => k_is)
    (case o_p13 => k_is)
    (case o_l13 => k_is)
    (case o_u13 => k_is)
    (case o_k13 => k_is)
    (case o_p14 => k_is)
    (case o_l14 => k_is)
    (case o_u14 => k_is)
    (case o_k14 => k_is)
    (case o_p15 => k_is)
    (case o_l15 => k_is)
    (case o_u15 => k_is)
    (case o_k15 => k_is)
    (case o_p16 => k_is)
    (case o_l16 => k_is)
    (case o_u16 => k_is)
    (case o_k16 => k_is)
    (case o_p17 => k_is)
    (case o_l17 => k_is)
    (case o_u17 => k_is)
    (case o_k17 => k_is)
    (case o_p18 => k_is)
    (case o_l18 => k_is)
    (case o_u18 => k_is)
    (case o_k18 => k_is)
    (case o_p19 => k_is)
    (case o_l19 => k_is)
    (case o_u19 => k_is)
    (case o_k19 => k_is)
    (case o_p20 => k_is)
    (case o_l20 => k_is)
    (case o_u20 => k_is)
    (case o_k20 => k_is)
    (case o_z_int => k_is)
    (case o_z_max => k_is)
    (case o_z_min => k_is)
    (case o_z_abs => k_is)
    (case o_z_len => k_is)
    (case o_z_repr => k_is)
    (case o_z_isinstance => k_is)
    (case o_z_range => k_is)
    (case o_z_str => k_is)
    (case o_z_list => k_is)
    (case o_z_enumerate => k_is)
    (case o_z_ValueError => k_is)
