import PyProof.Rows.All
import Wide.All
import OpenK.AllK
import Wide.FinOn
import HandS.ForExc
import HandS.Codes
import HandS.IsInst
import HandS.Wide
import HandS.EndBits
import HandS.ExcInit
import HandS.ExcIs
import HandS.MakeKw
import KE.KExcIs
import HandS.MakeKwOnly
import HandS.Comp
import HandS.ExcField
import HandS.Iter
import PyProof.StrOps2
import PyProof.ReprLoop
import PyProof.StrLaws
import HandS.HotCalls
import HandS.OwnEq
import PyProof.InstNe
import KE.KIsAll
import HandS.Text
import HandS.Gcd
import PyProof.TableTree
import HandS.Zip
import HandS.Star
import KE.KDictZip
import HandS.Style
import HandS.Walk
import HandS.Dict
import HandS.ListItems
import HandS.WordsExc
import HandS.Exc
import PySem.Challenge.RW_everyspan_k32_whole_strictest_rules_and
import HandS.Property
import HandS.RevRange
import HandS.Deep
import KE.RegKIsAll
set_option Elab.async false
set_option linter.all false
set_option maxRecDepth 100000
/-! Own rules over the hand layer: powers of great ints; defs that are promised only where no text of an object is being made around them (for repr). -/
namespace Ev
open PySem PySem.Spec PyProof.Rows L2

/-! ### powers -/
def CPowW (i j : Int) : Prop := 0 ≤ j ∧ j ≤ 1000 ∧ i.natAbs < 2 ^ 2000
section
variable {X : Cx}
theorem op_powW : OpR X (binaryOp .Pow) (rI CPowW fun i j => .int (i ^ j.toNat)) := opI fun i j _ _ _ _ _ hc q => by
  obtain ⟨h0, h1, h2⟩ := hc
  refine pow_int h0 ?_ q
  have hb : Builtin.Int.intBits i ≤ 2000 := by
    have h3 := PySem.Flt.log2_lt_of (by decide : 0 < 2000) h2
    unfold Builtin.Int.intBits
    split <;> omega
  have h4 : (Builtin.Int.intBits i : Int) * j ≤ 2000 * 1000 := by
    have a1 : (Builtin.Int.intBits i : Int) ≤ 2000 := by omega
    exact Int.le_trans (Int.mul_le_mul_of_nonneg_right a1 h0) (Int.mul_le_mul_of_nonneg_left h1 (by decide))
  have h5 : (2 : Int) ^ 27 = 134217728 := by decide
  omega

/-! ### repr -/
/-- repr of data of any depth, where nothing around is being shown -/
def rRepr (K : PySem.W.Frag) : List V → Hp → VK → Prop := fun xs H Q => ∃ (x : V) (d : PyData), xs = [x] ∧ Dp K H x d ∧ d.showable = true ∧ d.hasDict = false ∧ d.depth ≤ 100 ∧ d.shown.length ≤ sizeLine ∧ Q (.str d.shown) H
theorem call_repr_data (hg : X.A.guards = some []) (hu : X.A.units + 200 < cLine) : CallR X (.builtin "repr") (rRepr X.K) := by
  intro pins s σ H xs us Q I r h
  obtain ⟨x, d, rfl, hd, hs, hn, hp, hz, q⟩ := h
  obtain ⟨u, rfl, ru⟩ := vals1 r
  obtain ⟨as, rd⟩ := Dp.reads I d x u hd ru
  have far : ∀ a : Addr, u = .ref a → wpAny (model X.prog X.w) X.A (call (.builtin "repr") [u]) (EP X pins σ Q) X.xe s := fun a e => by
    subst e
    exact repr_of_reads' rd hs (PyData.noDict_hsm hn) hg (by omega) (fun _ _ z => z) (fun h' u tk hk => ⟨.str d.shown, H, I.kept (t' := tk) hk, ⟨u, rfl⟩, q⟩) hz
  cases hd with
  | non =>
    cases (show u = Value.none from ru)
    exact PySem.P.repr_of_none ⟨.str _, H, I.tok _, ⟨_, rfl⟩, by simpa only [PyData.shown] using q⟩
  | bl b =>
    cases (show u = Value.bool b from ru)
    exact PySem.P.repr_of_bool ⟨.str _, H, I.tok _, ⟨_, rfl⟩, by simpa only [PyData.shown] using q⟩
  | int i =>
    obtain ⟨t, e⟩ := (show ∃ t, u = Value.int i t from ru)
    subst e
    exact PySem.P.repr_of_int (by simpa [PyData.showable] using hs) ⟨.str _, H, I.tok _, ⟨_, rfl⟩, by simpa only [PyData.shown] using q⟩
  | str y =>
    obtain ⟨t, e⟩ := (show ∃ t, u = Value.str y t from ru)
    subst e
    exact PySem.P.repr_of_str ⟨.str _, H, I.tok _, ⟨_, rfl⟩, by simpa only [PyData.shown] using q⟩ (by simpa only [PyData.shown] using hz)
  | @lst a xs ds e1 e2 => exact far a (show u = Value.ref a from ru)
  | @tup a xs ds e1 e2 => exact far a (show u = Value.ref a from ru)
end

/-! ### defs that show things -/
structure FnG (P : Program) (w : World) (K : PySem.W.Frag) (mg : Str → Option Value) (base : Heap) (CX : CXT) (k : Nat) (f : Addr) (fd : FuncData) (ps : List Str) (sp : Sp) : Prop where
  size : ∀ vs H Q E, sp vs H Q E → vs.length = ps.length
  does : ∀ (A : Around) (fr : List Env) (s : Shared) (H : Hp) (as : Args) (us : List Value) (vs : List V) (Q : VK) (E : XK),
    Room k A ∧ A.guards = some [] → Env0 P w K mg base A fr s H → BindsTo s fd as (ps.zip us) → Vals vs us → sp vs H Q E → codeAny (model P w) A (.call (.ref f) as) (CR CX fr P w H s Q E) s
theorem FnG.of {P : Program} {w : World} {K : PySem.W.Frag} {mg : Str → Option Value} {base : Heap} {CX : CXT} {k : Nat} {f : Addr} {fd : FuncData} {ps : List Str} {sp : Sp}
    (F : FnOk P w K mg base CX k f fd ps sp) : FnG P w K mg base CX k f fd ps sp :=
  ⟨F.len, fun A fr s H as us vs Q E hr e0 hb hv hs => F.run A fr s H as us vs Q E hr.1 e0 hb hv hs⟩
section
variable {X : Cx} {CX : CXT} {k : Nat} {f : Addr} {fd : FuncData} {ps : List Str} {sp : Sp} {E : XK} {x : Str} {p pos : Pos} {e : Expr} {es : List Expr} {t : TA}
/-- f(e, ..), all parameters given -/
theorem pe_callG (F : FnG X.prog X.w X.K X.mg X.base CX k f fd ps sp) (hr : Room k X.A) (hgu : X.A.guards = some []) (hg : Gl X x) (hm : X.mg x = some (.ref f)) (hk : PySem.W.keepIn X.K (.ref f) = true)
    (hb : Binds X.K fd ps []) (hx : Passes CX X E) (ha : PA X (e :: es) t) (hdb : (x == ("__debug__" : Str)) = false := by decide)
    (he : starEach (e :: es) X.env = (false, eval e X.env) :: starEach es X.env := by rfl) (hpl : (backTo pos (starEach es X.env)).any (·.1) = false := by rfl) :
    PE X (.Call (.Name x p) (e :: es) [] pos) (tCall sp [] E t) := ⟨fun pins s σ H Q I h => by
  refine wpAny_Call_Name_kw (ld_glob I hg hm ?_ hdb)
  refine PySem.W.callWith_K (h₀ := X.base) I.ok.mod.kin hk (thn (ha.run pos pins s σ H _ I h) fun us s1 got => ?_) he hpl
  obtain ⟨vs, H1, I1, r, q⟩ := got
  refine ⟨I1.kIn, ?_⟩
  rw [List.append_nil] at q
  have hl : (us ++ []).length = ps.length := by
    rw [List.append_nil, ← r.length]
    exact F.size _ _ _ _ q
  have hb1 := hb s1 us I1.kIn hl
  rw [List.append_nil] at hb1
  refine wpAny_call (codeAny_mono (F.does X.A X.stack s1 H1 ⟨us, []⟩ us vs Q E ⟨hr, hgu⟩ I1.env0 hb1 r q) fun res s' hq => ?_)
  rcases res with er | fl
  · exact hx pins σ H1 s1 er s' I1 hq
  · rcases fl with _ | _ | _ | u
    · exact False.elim hq
    · exact False.elim hq
    · exact False.elim hq
    · exact I1.after hq⟩
end
/-- a def by its body, which may lean on it that nothing is being shown around -/
theorem fnG_of {P : Program} {w : World} {K : PySem.W.Frag} {mg : Str → Option Value} {base : Heap} {x qual : Str} {st : Stmt} {f : Addr} {fd : FuncData} {N ps : List Str} {k : Nat} {sp : Sp} (F : Fun K x qual st f fd) (S : FnScope N ps (defScope st))
    (len : ∀ vs H Q E, sp vs H Q E → vs.length = ps.length)
    (body : ∀ (cdv : Value) (A : Around) (fr : List Env) (s : Shared) (H : Hp) (vs : List V) (Q : VK) (E : XK), A.guards = some [] → Room k (A.deeper (envOfC qual (defScope st) s.heap.objs.size f cdv)) → sp vs H Q E →
      ∃ t, PSs (cxOf CX0 P w K mg base N qual (defScope st) f cdv A fr s H E).nox (defBody st) t ∧ t { nx := fun _ H' => Q .non H', rt := Q } (start N vs) H) :
    FnG P w K mg base CX0 (k + 1) f fd ps sp := by
  obtain ⟨oc, od, kV, doc, pm, an, cdv, ct, osl, rfl, lk, hcd⟩ := F.ex
  refine ⟨len, fun A fr s H as us vs Q E hr e0 hb rv hsp => ?_⟩
  obtain ⟨hroom, hgu⟩ := hr
  have up : ∀ b o, base.get? b = some o → s.heap.get? b = some o := fun b o z => (e0.bs b o z).1
  have KX : K.In s.heap := e0.mod.kin.keeps up
  have par : ∀ y ∈ ps.zip us, (defScope st).names.lookup y.1 = some .local ∨ ((defScope st).names.lookup y.1 = some .cell ∧ ((cellsFrom (s.heap.objs.size + 1) (defScope st).names []).lookup y.1).isSome = true) := by
    rintro ⟨n, v⟩ hy
    rcases S.par n (List.of_mem_zip hy).1 with q | q
    · exact Or.inl q
    · exact Or.inr ⟨q, PySem.W.cellsFrom_some _ _ _ (Or.inl q)⟩
  refine codeAny_call_function hroom.depth (KX _ _ lk) rfl S.co S.gen rfl (PySem.W.codeRec_of KX hcd) (hb _ _ _ _ ?_)
  refine wpAny_newFunctionEnv_cells S.kind par fun env he s1 ic => ?_
  subst he
  refine ⟨(e0.mod.nolimit.keeps up).keeps ic.toInCall.keep, codeAny_func ?_⟩
  obtain ⟨t, ht, hq⟩ := body cdv A fr s H vs Q E hgu (hroom.deeper _) hsp
  have I : Inv (cxOf CX0 P w K mg base N qual (defScope st) f cdv A fr s H E) [] (start N vs) H s1 := inv_start S hroom.hd e0 (len _ _ _ _ hsp) rv ic
  refine wpAny_mono (ht.nox.run [] s1 (start N vs) H _ I hq) (fun fl s' hs => ?_) fun er s' hs => hs
  rcases fl with _ | _ | _ | u
  · obtain ⟨σ', H', J, q⟩ := hs
    exact ⟨V.non, H', J.os, J.bare, J.base, J.hok, rfl, q⟩
  · exact hs.elim fun _ z => z.elim fun _ z => False.elim z.2
  · exact hs.elim fun _ z => z.elim fun _ z => False.elim z.2
  · obtain ⟨v, σ', H', J, r2, q⟩ := hs
    exact ⟨v, H', J.os, J.bare, J.base, J.hok, r2, q⟩
end Ev

namespace Ev
open PySem PySem.Spec PyProof.Rows L2
/-- such a def as a constant of the module -/
structure CalG (P : Program) (w : World) (K : PySem.W.Frag) (mg : Str → Option Value) (base : Heap) (k : Nat) (x : Str) (sp : Sp) : Prop where
  ex : ∃ (f : Addr) (fd : FuncData) (ps : List Str), FnG P w K mg base CX0 k f fd ps sp ∧ mg x = some (.ref f) ∧ PySem.W.keepIn K (.ref f) = true ∧ Binds K fd ps []
theorem pe_cG {X : Cx} {k j : Nat} {x : Str} {sp : Sp} {p pos : Pos} {e : Expr} {es : List Expr} {t : TA} (c : CalG X.prog X.w X.K X.mg X.base k x sp) (hr : Room j X.A) (hk : k ≤ j) (hgu : X.A.guards = some []) (hg : Gl X x) (ha : PA X (e :: es) t)
    (hdb : (x == ("__debug__" : Str)) = false := by decide) (he : starEach (e :: es) X.env = (false, eval e X.env) :: starEach es X.env := by rfl) (hpl : (backTo pos (starEach es X.env)).any (·.1) = false := by rfl) :
    PE X (.Call (.Name x p) (e :: es) [] pos) (tCall sp [] E0 t) := by
  obtain ⟨f, fd, ps, F, hm, kp, b⟩ := c.ex
  exact pe_callG F (hr.mono hk) hgu hg hm kp b pass0 ha hdb he hpl
/-- a def that shows nothing, likewise -/
structure CalN (P : Program) (w : World) (K : PySem.W.Frag) (mg : Str → Option Value) (base : Heap) (k : Nat) (x : Str) (sp : Sp) : Prop where
  ex : ∃ (f : Addr) (fd : FuncData) (ps : List Str), FnOk P w K mg base CX0 k f fd ps sp ∧ mg x = some (.ref f) ∧ PySem.W.keepIn K (.ref f) = true ∧ Binds K fd ps []
theorem pe_cN {X : Cx} {k j : Nat} {x : Str} {sp : Sp} {p pos : Pos} {e : Expr} {es : List Expr} {t : TA} (c : CalN X.prog X.w X.K X.mg X.base k x sp) (hr : Room j X.A) (hk : k ≤ j) (hg : Gl X x) (ha : PA X (e :: es) t)
    (hdb : (x == ("__debug__" : Str)) = false := by decide) (he : starEach (e :: es) X.env = (false, eval e X.env) :: starEach es X.env := by rfl) (hpl : (backTo pos (starEach es X.env)).any (·.1) = false := by rfl) :
    PE X (.Call (.Name x p) (e :: es) [] pos) (tCall sp [] E0 t) := by
  obtain ⟨f, fd, ps, F, hm, kp, b⟩ := c.ex
  exact pe_call F (hr.mono hk) hg hm kp b .nil pass0 ha hdb he hpl
theorem hun {k : Nat} {A : Around} (r : Room k A) : A.units + 200 < cLine := by
  have := r.un
  omega
theorem hun64 {k : Nat} {A : Around} (r : Room k A) : A.units + 64 < cLine := by
  have := r.un
  omega
end Ev

/-! ### the end of a law row, the law's def promised only where nothing is being shown around -/
namespace Ev
open PySem PySem.Spec PyProof.Rows L2
/-- what a call from outside leaves -/
abbrev Left (s₁ : Shared) : Result → Shared → Prop := fun r s' => r = .ok (.ret (.bool true)) ∧ OldK s₁.heap s'.heap ∧ s'.os = s₁.os ∧ AllBare s'.gens
section
variable {P : Program} {w : World} {K : PySem.W.Frag} {mg mb : Str → Option Value} {k : Nat} {fa a : Addr} {fd : FuncData} {x : Str} {sp : Sp} {s₁ : Shared} {vs : List Value} {ns : List Int}
/-- over an abstract heap H that tracks the script alone, or nothing -/
theorem from_heap {H : Hp} (KX : K.In s₁.heap) (hns : s₁.heap.Ns mainGlobals mg) (hb : s₁.heap.Ns builtinsNs mb) (hbb : ∀ x : Str, x ≠ "__name__" → mb x = bootBuiltins x) (hlim : s₁.heap.NoLimit) (hg : s₁.gens = #[])
    (ha : s₁.heap.get? a = some { cls := .type "list", data := .seq vs.toArray }) (hr : Room k callerA)
    (F : ∀ base : Heap, K.In base → base.Ns mainGlobals mg → FnG P w K mg base CX0 k fa fd [x] sp) (hbind : ∀ (s : Shared) (u : Value), BindsTo s fd ⟨[u], []⟩ [(x, u)])
    (hO : Only H) (hok : HOk P w H s₁.heap) (only : ∀ b u, H b = some u → b = a) (hK : ∀ u, H a = some u → K.lookup a = none)
    (hsp : sp [.ref a] H (fun v _ => v = .bl true) fun _ _ _ => False) : codeAny (model P w) callerA (.call (.ref fa) ⟨[.ref a], []⟩) (Left s₁) s₁ := by
  have none_of : ∀ {b : Addr}, b ≠ a → H b = none := fun {b} nb => by
    cases q : H b with
    | none => rfl
    | some u => exact absurd (only b u q) nb
  -- a namespace is no list: it stays in the heap without what is tracked
  have keepNs : ∀ {b : Addr} {m : Str → Option Value}, s₁.heap.Ns b m → (hidT s₁.heap H).Ns b m := fun {b m} hm => by
    obtain ⟨o, es, ep, e1, e2, r⟩ := hm
    refine ⟨o, es, ep, hidT_get e1 (none_of fun z => ?_), e2, r⟩
    rw [z, ha] at e1
    have z1 := Option.some.inj e1
    rw [← z1] at e2
    exact absurd e2 (fun q => by cases q)
  have KB : K.In (hidT s₁.heap H) := fun b o e => by
    refine hidT_get (KX b o e) ?_
    cases q : H b with
    | none => rfl
    | some u =>
      have eb := only b u q
      rw [eb] at q e
      rw [hK u q] at e
      cases e
  have lim : (hidT s₁.heap H).NoLimit := by
    obtain ⟨mc, h1, h2⟩ := hlim
    exact ⟨mc, keepNs h1, h2⟩
  have env : Env0 P w K mg (hidT s₁.heap H) callerA [] s₁ H := {
    frames := rfl
    mod := ⟨KB, keepNs hns, ⟨mb, keepNs hb, hbb⟩, lim⟩
    bs := fun b o e => of_hidT e
    bsz := Nat.le_of_eq (hidT_size _ _)
    funs := trivial
    frf := fun b z => by
      have z' : b ∈ ([] : List Addr) := z
      cases z'
    hok := hok
    bare := .of_eq hg }
  refine codeAny_mono ((F _ KB (keepNs hns)).does callerA [] s₁ H ⟨[.ref a], []⟩ [.ref a] [.ref a] _ _ ⟨hr, rfl⟩ env (hbind s₁ (.ref a)) (Paired.cons rfl Paired.nil) hsp) fun r s' h => ?_
  rcases r with er | fl
  · exact False.elim h
  · rcases fl with _ | _ | _ | u
    · exact False.elim h
    · exact False.elim h
    · exact False.elim h
    · obtain ⟨v, H', os, bare, un, hok', r', q⟩ := h
      have q' : v = .bl true := q
      subst q'
      obtain rfl : u = Value.bool true := r'
      refine ⟨rfl, OldK.of_keep fun b o e => ?_, os, bare⟩
      rcases hO b with z | ⟨ob, xs, z⟩
      · refine un.keep b o e z (fun m => ?_) (fun m => ?_)
        · have m' : b ∈ ([] : List Addr) := m
          cases m'
        · cases m
      · have e1 : s₁.heap.get? b = some ob := (hok b _ z).1
        have e2 : s'.heap.get? b = some ob := (hok' b _ (un.frzs b ob _ z)).1
        rw [e] at e1
        rw [e2, ← Option.some.inj e1]
theorem law_callG (KX : K.In s₁.heap) (hns : s₁.heap.Ns mainGlobals mg) (hb : s₁.heap.Ns builtinsNs mb) (hbb : ∀ x : Str, x ≠ "__name__" → mb x = bootBuiltins x) (hlim : s₁.heap.NoLimit) (hg : s₁.gens = #[])
    (ha : s₁.heap.get? a = some { cls := .type "list", data := .seq vs.toArray }) (hi : IntsAre vs ns) (hl : ns.length ≤ sizeLine) (hr : Room k callerA)
    (F : ∀ base : Heap, K.In base → base.Ns mainGlobals mg → FnG P w K mg base CX0 k fa fd [x] sp) (hbind : ∀ (s : Shared) (u : Value), BindsTo s fd ⟨[u], []⟩ [(x, u)])
    (hsp : ∀ H : Hp, Only H → SqL K H a (ns.map V.int) → sp [.ref a] H (fun v _ => v = .bl true) fun _ _ _ => False) : codeAny (model P w) callerA (.call (.ref fa) ⟨[.ref a], []⟩) (Left s₁) s₁ := by
  have rv : Vals (ns.map V.int) vs := vals_ints hi
  cases hk : K.lookup a with
  | some o =>
    -- one of the module's own objects: nothing is tracked
    have e := KX a o hk
    rw [ha] at e
    cases e
    have n0 : ∀ b u, (fun _ => none : Hp) b = some u → False := fun b u z => by cases z
    refine from_heap (H := fun _ => none) KX hns hb hbb hlim hg ha hr F hbind (fun _ => .inl rfl) (fun b u z => (n0 b u z).elim) (fun b u z => (n0 b u z).elim) (fun u z => (n0 a u z).elim) (hsp _ (fun _ => .inl rfl) (.inr ⟨_, vs.toArray, _, hk, rfl, rfl, rfl, ?_, rv⟩))
    rw [List.size_toArray, hi.length]
    exact hl
  | none =>
    have at1 : ∀ b u, (upd (fun _ => none) a (.frz { cls := .type "list", data := .seq vs.toArray } (.lst (ns.map V.int)))) b = some u → b = a ∧ u = .frz { cls := .type "list", data := .seq vs.toArray } (.lst (ns.map V.int)) := fun b u z => by
      by_cases hb : b = a
      · subst hb
        rw [upd_same] at z
        exact ⟨rfl, (Option.some.inj z).symm⟩
      · rw [upd_ne hb] at z
        cases z
    have o1 : Only (upd (fun _ => none) a (.frz { cls := .type "list", data := .seq vs.toArray } (.lst (ns.map V.int)))) := fun b => by
      by_cases hb : b = a
      · subst hb
        exact .inr ⟨_, _, upd_same⟩
      · exact .inl (by rw [upd_ne hb])
    refine from_heap (H := upd (fun _ => none) a (.frz { cls := .type "list", data := .seq vs.toArray } (.lst (ns.map V.int)))) KX hns hb hbb hlim hg ha hr F hbind o1 (fun b u z => ?_) (fun b u z => (at1 b u z).1) (fun _ _ => hk) (hsp _ o1 (.inl (.inr ⟨_, upd_same⟩)))
    obtain ⟨eb, eu⟩ := at1 b u z
    subst eb
    subst eu
    exact ⟨ha, by rw [List.length_map]; exact hl, vs, _, rv, ha⟩
end
/-- the goal that the head leaves, from the law's promise -/
theorem walk_ofG {l : PySem.W.OpenLaw} {n k : Nat} {q : Program} {loose : List Str} {XP : (Str → Option Value) → Heap → Prop} {YP : World → Heap → Prop} {d : DefRec} {K : Params → PySem.W.Frag} {sp : PySem.W.Frag → Sp} {x : Str}
    (hn : l.most = some n) (hn2 : n ≤ sizeLine) (hdf : d.params.defaults = []) (hr : Room k callerA) (hY : ∀ (w : World) (h : Heap), YP w h → (K w.params).In h)
    (F : ∀ (w : World) (mg : Str → Option Value) (fa : Addr) (h : Heap), (K w.params).In h → h.Ns mainGlobals mg → mg d.name = some (.ref fa) →
      ∃ fd : FuncData, (∀ (s : Shared) (u : Value), BindsTo s fd ⟨[u], []⟩ [(x, u)]) ∧ ∀ base : Heap, (K w.params).In base → base.Ns mainGlobals mg → FnG l.prog w (K w.params) mg base CX0 k fa fd [x] (sp (K w.params)))
    (hsp : ∀ (K : PySem.W.Frag) (H : Hp) (a : Addr) (ns : List Int), ns.length ≤ n → SqL K H a (ns.map V.int) → sp K [.ref a] H (fun v _ => v = .bl true) fun _ _ _ => False) :
    PySem.W.WalkO q loose XP YP l.row.toRowW d [] (fun f vs => PySem.call f vs) := by
  refine Att.attach_call hn hdf fun w s₀ s₁ mg mb fa o pm cd doc a vs ns G Y ho hd hcd hmg hobj hints hlen hg => ?_
  have KX := hY w _ Y
  obtain ⟨fd, hb, hF⟩ := F w mg fa _ KX G.T.g hmg
  exact law_callG KX G.T.g G.T.b G.T.builtins G.T.nolimit hg hobj hints (Nat.le_trans hlen hn2) hr hF hb fun H _ hS => hsp (K w.params) H a ns hlen hS
end Ev

set_option maxHeartbeats 2000000
/-! An own exception with an own __init__ as a value: made by position or by one keyword, its field read, asked by isinstance. -/
namespace Ev
open PySem PySem.Spec PyProof.Rows L2 PySem.HandSPX
section
variable {M : Model} {prog : Program} {w : World} {A : Around} {E : Value → Shared → Prop} {R : Result → Shared → Prop} {h : Heap} {g : Array GenState} {d : Drawn} {t : Nat} {os : OsState}
variable {nm q : Str} {C N : Addr} {bs bm bmB : List Value} {hdct : Bool} {sn : List Str} {sub : List Value} {ab : Bool} {col : Option Bool} {dd : Option Addr} {k0 k1 k2 k3 k5 : Option Value} {B newId initId : String} {kw : List (Str × Value)}
/-- BaseException.__new__ takes any keywords -/
theorem kw_check_new (F : ExcBaseFacts B newId initId bmB) (hT : ∀ X : String, bm.contains (.type X) = bmB.contains (.type X)) {Q : Unit → Shared → Prop}
    (hC : h.get? C = some (excClassObj nm q C N bs bm hdct sn sub ab col dd k0 k1 k2 k3 k5 newId)) (hq : Q () ⟨h, g, d, t, os⟩) (hk : kw.length = 1) : wpAny M A (checkBuiltinCall newId ⟨[.ref C], kw⟩) Q E ⟨h, g, d, t, os⟩ := by
  obtain ⟨kv, rfl⟩ : ∃ kv, kw = [kv] := by
    match kw, hk with
    | [kv], _ => exact ⟨kv, rfl⟩
  have inB : (Value.ref C :: bm).contains (.type B) = true := by rw [List.contains_cons, hT, F.hasB, Bool.or_true]
  have noStar := F.noStar
  simp only [checkBuiltinCall, F.newKind, F.newSplit, F.newRow]
  repeat (first | refine wpAny_loadPart_at hC ?_ | (refine wpAny_isSubtype_exc hC ?_; rw [inB]) | refine wpAny_staticBase_exc hC ?_ | refine wpAny_madeBy_exc hC ?_ | simp only [bne_self_eq_false, Bool.false_eq_true, if_false] | wp_step)
  exact hq
theorem kw_new (F : ExcBaseFacts B newId initId bmB) (hT : ∀ X : String, bm.contains (.type X) = bmB.contains (.type X))
    (hC : h.get? C = some (excClassObj nm q C N bs bm hdct sn sub ab col dd k0 k1 k2 k3 k5 newId))
    (hq : R (.ok (.ret (.ref (h.objs.size + 1)))) ⟨(h.push (W.kdv_tup [])).push (excO C h.objs.size), g, d, t, os⟩) : codeAny (model prog w) A (.builtin newId ⟨[.ref C], kw⟩) R ⟨h, g, d, t, os⟩ := by
  have hends := F.ends
  have inB : (Value.ref C :: bm).contains (.type B) = true := by rw [List.contains_cons, hT, F.hasB, Bool.or_true]
  have inA : (Value.ref C :: bm).contains (.type "AttributeError") = false := by rw [List.contains_cons, hT, F.noAttr]; rfl
  have inN : (Value.ref C :: bm).contains (.type "NameError") = false := by rw [List.contains_cons, hT, F.noName]; rfl
  refine codeAny_builtinAt F.entry ?_
  unfold Builtin.«BaseException.__new__»
  refine PySem.wpAt_bind ?_
  show PySem.wpAt _ _ _ (stack >>= _) _ _ _
  refine PySem.wpAt_bind (PySem.wpAt_stack fun p below => PySem.wpAt_of_wpAny ?_)
  wp_walk
  refine PySem.wpAt_of_wpAny ?_
  rw [F.owner]
  repeat (first | with_reducible refine wpAny_madeHere_exc F.canon hC ?_ | with_reducible refine wpAny_loadPart_at hC ?_ | (with_reducible refine wpAny_isSubtype_exc hC ?_; first | rw [inB] | rw [inA] | rw [inN]) | wp_step)
  show R _ _
  rw [Heap.size_push]
  exact hq
theorem kw_check_call (hC : h.get? C = some (excClassObj nm q C N bs bm hdct sn sub ab col dd k0 k1 k2 k3 k5 newId)) (hk : kw.length = 1) {Q : Unit → Shared → Prop} (hq : Q () ⟨h, g, d, t, os⟩) :
    wpAny M A (checkBuiltinCall "type.__call__" ⟨[.ref C], kw⟩) Q E ⟨h, g, d, t, os⟩ := by
  obtain ⟨kv, rfl⟩ : ∃ kv, kw = [kv] := by
    match kw, hk with
    | [kv], _ => exact ⟨kv, rfl⟩
  have f3 := tc_sub
  have isT : (⟨h, g, d, t, os⟩ : Shared).TypeIs (.ref C) "type" := ⟨_, hC, rfl⟩
  simp only [checkBuiltinCall, tc_kind, tc_split]
  repeat (any_goals (first | assumption | with_reducible refine wpAny_loadPart_at hC ?_ | with_reducible refine wpAny_onRaise ?_ | with_reducible refine wpAny_map ?_ | wp_step))
theorem kw_type_call (F : ExcBaseFacts B newId initId bmB) (hT : ∀ X : String, bm.contains (.type X) = bmB.contains (.type X)) {fI : Addr} {Q : PySem.Fin → Shared → Prop} (hk : kw.length = 1)
    (hC : h.get? C = some (excClassObj nm q C N bs bm hdct sn sub ab col dd k0 k1 k2 k3 k5 newId))
    (hi : W.Looks (model prog w) h (typeLookup (.ref C) "__init__") (some (.ref fI))) (hb : ∀ self, W.Looks (model prog w) h (bindSpecial (.ref fI) self) (.ref fI, [self]))
    (hq : codeAny (model prog w) A (.call (.ref fI) ⟨[.ref (h.objs.size + 1)], kw⟩)
      (fun r s' => match r with | .ok (.ret v) => v = .none ∧ Q (.done (.ret (.ref (h.objs.size + 1)))) s' | .ok _ => False | .error e => E e s')
      ⟨(h.push (W.kdv_tup [])).push (excO C h.objs.size), g, d, t, os⟩) :
    wpAny (model prog w) A (Builtin.«type.__call__» ⟨[.ref C], kw⟩) Q E ⟨h, g, d, t, os⟩ := by
  repeat (first | with_reducible refine wpAny_loadPart_at hC ?_ | with_reducible refine wpAny_madeBy_exc hC ?_ | wp_step)
  refine codeAny_call_builtin_code (Code.quiet_builtin _ F.quiet) (kw_check_new F hT hC ?_ hk)
  refine kw_new F hT hC ?_
  show wpAny _ _ _ _ _ _
  have up : ∀ b o, h.get? b = some o → ((h.push (W.kdv_tup [])).push (excO C h.objs.size)).get? b = some o := fun b o e => Heap.get?_push_of_some _ (Heap.get?_push_of_some _ e)
  have hC2 := up _ _ hC
  have hnew : ((h.push (W.kdv_tup [])).push (excO C h.objs.size)).get? (h.objs.size + 1) = some (excO C h.objs.size) := by heap_get
  have inC : (Value.ref C :: bm).contains (.ref C) = true := by simp
  have i1 := hi.keeps up
  have b1 := (hb (.ref (h.objs.size + 1))).keeps up
  unfold isInstance
  repeat (first | with_reducible refine wpAny_loadPart_at hnew ?_ | (with_reducible refine wpAny_isSubtype_exc hC2 ?_; rw [inC]) | wp_step)
  show wpAny _ _ (typeLookup (.ref C) _) _ _ _
  refine i1.at ?_
  refine wpAny_holding (wpAny_bind (b1.at ?_))
  refine wpAny_bind (wpAny_call (codeAny_mono hq fun r s' z => ?_))
  rcases r with e | (_ | _ | _ | v)
  · exact z
  · exact z.elim
  · exact z.elim
  · exact z.elim
  · obtain ⟨rfl, z⟩ := z
    first
      | exact wpAny_pure (wpAny_pure z)
      | (wp_walk; exact z)
/-- C(n = v), C an own exception class with an own __init__ -/
theorem kw_call (F : ExcBaseFacts B newId initId bmB) (hT : ∀ X : String, bm.contains (.type X) = bmB.contains (.type X)) {fI : Addr} (hk : kw.length = 1)
    (hC : h.get? C = some (excClassObj nm q C N bs bm hdct sn sub ab col dd k0 k1 k2 k3 k5 newId))
    (hi : W.Looks (model prog w) h (typeLookup (.ref C) "__init__") (some (.ref fI))) (hb : ∀ self, W.Looks (model prog w) h (bindSpecial (.ref fI) self) (.ref fI, [self]))
    (hq : codeAny (model prog w) (A.under (.builtin "type.__call__" ⟨[.ref C], kw⟩)) (.call (.ref fI) ⟨[.ref (h.objs.size + 1)], kw⟩) (W.InitBack (h.objs.size + 1) R)
      ⟨(h.push (W.kdv_tup [])).push (excO C h.objs.size), g, d, t, os⟩) : codeAny (model prog w) A (.call (.ref C) ⟨[], kw⟩) R ⟨h, g, d, t, os⟩ := by
  have f1 := tc_lookup
  have f2 := tc_bind (.ref C)
  have isT : (⟨h, g, d, t, os⟩ : Shared).TypeIs (.ref C) "type" := ⟨_, hC, rfl⟩
  refine codeAny_of_tree ?_
  show wpAny _ _ (callAny (.ref C) _) _ _ _
  repeat (any_goals (first | assumption | with_reducible refine wpAny_loadPart_at hC ?_ | wp_step))
  refine ⟨rfl, ?_⟩
  refine codeAny_call_builtin_at (Code.quiet_builtin _ (by decide +kernel)) entry_typeCall (kw_check_call hC hk (kw_type_call F hT hk hC hi hb ?_))
  refine codeAny_mono hq fun r s' z => ?_
  rcases r with e | (_ | _ | _ | v) <;> exact z
end
end Ev

set_option maxHeartbeats 2000000
/-! The rules for such a value. -/
namespace Ev
open PySem PySem.Spec PyProof.Rows L2 PySem.HandSPX
/-- C(e), C(n = e): C an own exception class, its __init__ keeping sp -/
def tMkV (C : Addr) (sp : Sp) (ta : TA) : TE := fun σ H Q => ta σ H fun vs H1 => ∃ y, vs = [y] ∧ ∀ a, H1 a = none → sp [.ref a, y] (upd H1 a (exo a C none)) (fun v H2 => v = .non ∧ Q (.ref a) H2) (fun _ _ _ => False)
section
variable {X : Cx} {CX : CXT} {k : Nat} {C fI : Addr} {fd : FuncData} {ps : List Str} {sp : Sp} {x : Str} {p pos : Pos} {e : Expr} {es : List Expr} {ta : TA} {kws : List Keyword} {n : Str}
/-- what follows the call of __init__ -/
theorem mkv_end {pins : List (Addr × Obj)} {σ : L2.St} {H : Hp} {s : Shared} {a : Addr} {Q : VK} {r : Result} {s' : Shared} {E : XK} (I : Inv X pins σ H s) (hx : Passes CX X (fun _ _ _ => False))
    (hq : CR CX X.stack X.prog X.w H s (fun v H2 => v = .non ∧ Q (.ref a) H2) (fun _ _ _ => False) r s') :
    PySem.W.InitBack a (fun r s2 => match r with | .ok (.ret u) => EP X pins σ Q u s2 | .ok _ => False | .error er => X.xe er s2) r s' := by
  rcases r with er | (_ | _ | _ | u)
  · exact hx pins σ H s er s' I hq
  · exact False.elim hq
  · exact False.elim hq
  · exact False.elim hq
  · obtain ⟨v, H2, I2, rv, ev, q⟩ := I.after hq
    subst ev
    exact ⟨rv, .ref a, H2, I2, rfl, q⟩
theorem pe_oexV (T : OexC X.K C) (iC : PySem.W.findIn X.K (.ref C) "__init__" = some (some (.ref fI))) (tI : PySem.W.typeIn X.K (.ref fI) = some (.type "function"))
    (F1 : FnOk X.prog X.w X.K X.mg X.base CX k fI fd ps sp) (hr : Room (k + 1) X.A) (hb : Binds X.K fd ps []) (hx : Passes CX X (fun _ _ _ => False)) (hg : Gl X x) (hm : X.mg x = some (.ref C)) (ha : PA X (e :: es) ta)
    (hdb : (x == ("__debug__" : Str)) = false := by decide) (he : starEach (e :: es) X.env = (false, eval e X.env) :: starEach es X.env := by rfl) (hpl : (backTo pos (starEach es X.env)).any (·.1) = false := by rfl) :
    PE X (.Call (.Name x p) (e :: es) [] pos) (tMkV C sp ta) := ⟨fun pins s σ H Q I h => by
  obtain ⟨nm, q, N, bs, bm, sn, sub, ab, col, dd, k0, k1, k2, k3, k5, hC, hbm⟩ := T.cls
  refine wpAny_Call_Name_kw (ld_glob I hg hm ?_ hdb)
  refine PySem.W.callWith_K (h₀ := X.base) I.ok.mod.kin T.kC (thn (ha.run pos pins s σ H _ I h) fun us s1 got => ?_) he hpl
  obtain ⟨vs, H1, I1, r1, y, rfl, q1⟩ := got
  refine ⟨I1.kIn, ?_⟩
  obtain ⟨hp, g, dr, tk, os⟩ := s1
  have up : ∀ b o, hp.get? b = some o → ((hp.push (PySem.W.kdv_tup us)).push (excO C hp.objs.size)).get? b = some o := fun b o z => Heap.get?_push_of_some _ (Heap.get?_push_of_some _ z)
  have hnew : ((hp.push (PySem.W.kdv_tup us)).push (excO C hp.objs.size)).get? (hp.objs.size + 1) = some (excO C hp.objs.size) := by heap_get
  have I2 : Inv X pins σ (upd H1 (hp.objs.size + 1) (exo (hp.objs.size + 1) C none)) ⟨(hp.push (PySem.W.kdv_tup us)).push (excO C hp.objs.size), g, dr, tk, os⟩ :=
    I1.laid (t' := tk) (a := hp.objs.size + 1) (o := exo (hp.objs.size + 1) C none) (h' := (hp.push (PySem.W.kdv_tup us)).push (excO C hp.objs.size)) up (Nat.le_succ _) (exo_ok hnew)
  have hsp := q1 (hp.objs.size + 1) (I1.hok.fresh (Nat.le_succ _))
  have r2 : Vals [V.ref (hp.objs.size + 1), y] (Value.ref (hp.objs.size + 1) :: us) := .cons rfl r1
  have hl : (Value.ref (hp.objs.size + 1) :: us ++ []).length = ps.length := by
    rw [List.append_nil, ← F1.len _ _ _ _ hsp, r2.length]
  have hb1 := hb ⟨(hp.push (PySem.W.kdv_tup us)).push (excO C hp.objs.size), g, dr, tk, os⟩ (Value.ref (hp.objs.size + 1) :: us) I2.kIn hl
  rw [List.append_nil] at hb1
  have hus : us.length ≤ sizeLine := by
    rw [← Paired.length r1, sizeLine_eq]
    exact (by decide : 1 ≤ 16777216)
  show wpAny _ _ (call (.ref C) us) _ _ _
  refine wpAny_call (call_own F.excBase_ValueError (fun Y => refsVE_contains Y bm hbm) (I1.kIn _ _ hC) (PySem.W.looks_findIn I1.kIn iC) (fun self => PySem.W.bind_fn I1.kIn self tI) hus ?_)
  refine codeAny_mono (F1.run _ X.stack _ _ ⟨Value.ref (hp.objs.size + 1) :: us, []⟩ (Value.ref (hp.objs.size + 1) :: us) _ _ (fun _ _ _ => False) (hr.make C us []) (I2.env0.make C us []) hb1 r2 hsp) fun r s' hq => ?_
  have z := mkv_end (E := fun _ _ _ => False) I2 hx hq
  rcases r with er | (_ | _ | _ | u) <;> exact z⟩
/-- C(n = e) -/
theorem pe_oexK (T : OexC X.K C) (iC : PySem.W.findIn X.K (.ref C) "__init__" = some (some (.ref fI))) (tI : PySem.W.typeIn X.K (.ref fI) = some (.type "function"))
    (F1 : FnOk X.prog X.w X.K X.mg X.base CX k fI fd ps sp) (hr : Room (k + 1) X.A) (hb : ∀ (s : Shared) (a u : Value), BindsTo s fd ⟨[a], [(n, u)]⟩ (ps.zip [a, u])) (hx : Passes CX X (fun _ _ _ => False)) (hg : Gl X x) (hm : X.mg x = some (.ref C)) (hkw : PK X kws ta)
    (hall : (backToKw pos (keywordEach kws X.env)).all (·.1.isSome) = true := by rfl) (hks : (backToKw pos (keywordEach kws X.env)).filterMap (·.1) = [n] := by rfl) (hdb : (x == ("__debug__" : Str)) = false := by decide)
    (hpl : ((backTo pos (starEach [] X.env)).any (·.1) || (backToKw pos (keywordEach kws X.env)).any (·.1.isNone)) = false := by rfl) :
    PE X (.Call (.Name x p) [] kws pos) (tMkV C sp ta) := ⟨fun pins s σ H Q I h => by
  obtain ⟨nm, q, N, bs, bm, sn, sub, ab, col, dd, k0, k1, k2, k3, k5, hC, hbm⟩ := T.cls
  refine wpAny_Call_Name_kw (ld_glob I hg hm ?_ hdb)
  refine PySem.W.callWith_KW0 (h₀ := X.base) I.ok.mod.kin T.kC hall ?_ hpl
  refine thn (hkw.run pos pins s σ H _ I h) fun us s1 got => ?_
  obtain ⟨vs, H1, I1, r1, y, rfl, q1⟩ := got
  refine ⟨I1.kIn, ?_⟩
  rw [hks]
  obtain ⟨u, rfl, ru⟩ := vals1 r1
  obtain ⟨hp, g, dr, tk, os⟩ := s1
  have up : ∀ b o, hp.get? b = some o → ((hp.push (PySem.W.kdv_tup [])).push (excO C hp.objs.size)).get? b = some o := fun b o z => Heap.get?_push_of_some _ (Heap.get?_push_of_some _ z)
  have hnew : ((hp.push (PySem.W.kdv_tup [])).push (excO C hp.objs.size)).get? (hp.objs.size + 1) = some (excO C hp.objs.size) := by heap_get
  have I2 : Inv X pins σ (upd H1 (hp.objs.size + 1) (exo (hp.objs.size + 1) C none)) ⟨(hp.push (PySem.W.kdv_tup [])).push (excO C hp.objs.size), g, dr, tk, os⟩ :=
    I1.laid (t' := tk) (a := hp.objs.size + 1) (o := exo (hp.objs.size + 1) C none) (h' := (hp.push (PySem.W.kdv_tup [])).push (excO C hp.objs.size)) up (Nat.le_succ _) (exo_ok hnew)
  have hsp := q1 (hp.objs.size + 1) (I1.hok.fresh (Nat.le_succ _))
  have r2 : Vals [V.ref (hp.objs.size + 1), y] [Value.ref (hp.objs.size + 1), u] := .cons rfl (.cons ru .nil)
  show wpAny _ _ (call (.ref C) [] [(n, u)]) _ _ _
  refine wpAny_call (kw_call F.excBase_ValueError (fun Y => refsVE_contains Y bm hbm) rfl (I1.kIn _ _ hC) (PySem.W.looks_findIn I1.kIn iC) (fun self => PySem.W.bind_fn I1.kIn self tI) ?_)
  refine codeAny_mono (F1.run _ X.stack _ _ ⟨[Value.ref (hp.objs.size + 1)], [(n, u)]⟩ [Value.ref (hp.objs.size + 1), u] _ _ (fun _ _ _ => False) (hr.make C [] [(n, u)]) (I2.env0.make C [] [(n, u)]) (hb _ _ _) r2 hsp) fun r s' hq => ?_
  have z := mkv_end (E := fun _ _ _ => False) I2 hx hq
  rcases r with er | (_ | _ | _ | v) <;> exact z⟩
/-- what the written part says of the class, so that an object of it may be read and asked -/
structure ExV (K : PySem.W.Frag) (C : Addr) : Prop where
  ga : PySem.W.findIn K (.ref C) "__getattribute__" = some (some (.builtin "BaseException.__getattribute__"))
  gg : PySem.W.findIn K (.ref C) "__getattr__" = some none
  ex : PySem.W.subIn K (.ref C) (.type "BaseException") = some true
  hd : PySem.W.hasDictIn K C = true
  ac : PySem.W.findIn K (.ref C) "__class__" = some (some (.builtin "object.__class__"))
  sn : PySem.W.specialIn K (.builtin "object.__class__") "__get__" = some (some (.builtin "getset_descriptor.__get__"))
  tk : PySem.W.takesIn K (.builtin "object.__class__") = some true
  mr : PySem.W.mroIn K C (.type "object") = some true
/-- e.f of such an object, f in its own dict -/
def tXv (K : PySem.W.Frag) (f : Str) (te : TE) : TE := fun σ H Q => te σ H fun x H1 => ∃ (a C dx : Addr) (fs : List (Str × V)) (v : V), x = .ref a ∧ H1 a = some (exo a C (some dx)) ∧ H1 dx = some (exd dx fs) ∧ ExV K C ∧ PySem.W.findIn K (.ref C) f = some none ∧ fs.lookup f = some v ∧ Q v H1
theorem pe_xv {o : Expr} {to : TE} {f : Str} (he : PE X o to) (hb : attributeBase o f X.env (eval o X.env) = eval o X.env := by rfl) : PE X (.Attribute o f pos) (tXv X.K f to) := ⟨fun pins s σ H Q I h => by
  refine attr_of hb (thn (he.run pins s σ H _ I h) fun u s1 got => ?_)
  obtain ⟨x, H1, I1, rx, a, C, dx, fs, v, rfl, ea, ed, T, hno, hl, q⟩ := got
  obtain rfl : u = Value.ref a := rx
  obtain ⟨t1, ho⟩ := exo_at I1.hok ea
  obtain ⟨mA, hns, hrel⟩ := exd_at I1.hok ed
  obtain ⟨od, hod, look⟩ := lookIn_ns hns
  obtain ⟨u, hu, ru⟩ := RelO.some_of (v := v) (o := mA f) (by rw [← hl]; exact hrel f)
  have J : PySem.W.InstAt s1.heap a { cls := .ref C, dict := some dx, data := .fields #[.ref t1, .none, .none, .none, .bool false, .none] } C (some od) := ⟨ho, rfl, rfl, hod⟩
  exact exc_get I1.kIn J T.ga T.gg T.ex (PySem.W.findObj_own T.hd hno rfl (by rw [look, hu])) (handed_of ru) ⟨v, H1, I1.tok _, ru, q⟩⟩
/-- isinstance(e, c) of such an object -/
def rIsV (K : PySem.W.Frag) : List V → Hp → VK → Prop := fun xs H Q => ∃ (a C dx : Addr) (fs : List (Str × V)) (c : V) (u : Value) (b : Bool), xs = [.ref a, c] ∧ ClsV c u ∧ H a = some (exo a C (some dx)) ∧ H dx = some (exd dx fs) ∧ ExV K C ∧ PySem.W.kitOne K (.ref C) u = some b ∧ Q (.bl b) H
/-- isinstance(e, (c1, c2, ..)) -/
def rIsVT (K : PySem.W.Frag) : List V → Hp → VK → Prop := fun xs H Q => ∃ (a C dx tp : Addr) (fs : List (Str × V)) (cs : List V) (us : List Value) (b : Bool), xs = [.ref a, .ref tp] ∧ H tp = some (.tup cs) ∧ Paired ClsV cs us ∧ H a = some (exo a C (some dx)) ∧ H dx = some (exd dx fs) ∧ ExV K C ∧
  PySem.W.kitAny K (.ref C) us = some b ∧ Q (.bl b) H
theorem ExV.kit {K : PySem.W.Frag} {C a : Addr} {ox : Obj} {od : Option Obj} (T : ExV K C) : PySem.W.KitX K (.ref a) (.ref C) (fun h => PySem.W.InstAt h a ox C od) := by
  obtain ⟨cd, hc, _⟩ := PySem.W.any_some T.hd
  exact PySem.W.kitx_exc (by rw [hc]; rfl) T.ga T.gg T.ex T.ac T.sn T.tk T.mr
theorem inst_of {pins : List (Addr × Obj)} {σ : L2.St} {H : Hp} {s : Shared} {a dx : Addr} {fs : List (Str × V)} (I : Inv X pins σ H s) (ea : H a = some (exo a C (some dx))) (ed : H dx = some (exd dx fs)) : ∃ ox od, PySem.W.InstAt s.heap a ox C (some od) := by
  obtain ⟨t1, ho⟩ := exo_at I.hok ea
  obtain ⟨mA, hns, _⟩ := exd_at I.hok ed
  obtain ⟨od, hod, _⟩ := lookIn_ns hns
  exact ⟨_, od, ho, rfl, rfl, hod⟩
theorem call_isV : CallR X (.builtin "isinstance") (rIsV X.K) := by
  intro pins s σ H xs us Q I r h
  obtain ⟨a, C, dx, fs, c, u, b, rfl, k, ea, ed, T, e, q⟩ := h
  obtain ⟨u1, u2, rfl, r1, r2⟩ := vals2 r
  obtain rfl : u1 = Value.ref a := r1
  have e2 := k.eq r2
  subst e2
  obtain ⟨ox, od, J⟩ := inst_of I ea ed
  exact PySem.W.kia_one T.kit I.kIn J e (fun z => nomatch z) fun tk => ⟨.bl b, H, I.tok tk, rfl, q⟩
theorem call_isVT : CallR X (.builtin "isinstance") (rIsVT X.K) := by
  intro pins s σ H xs us Q I r h
  obtain ⟨a, C, dx, tp, fs, cs, vs, b, rfl, etp, k, ea, ed, T, e, q⟩ := h
  obtain ⟨u1, u2, rfl, r1, r2⟩ := vals2 r
  obtain rfl : u1 = Value.ref a := r1
  obtain rfl : u2 = Value.ref tp := r2
  obtain ⟨ox, od, J⟩ := inst_of I ea ed
  obtain ⟨_, its, rv, ob, ho, hc, n, hd⟩ := (show ObjOk X.prog X.w H s.heap tp (.tup cs) from I.hok tp _ etp)
  have ei := ClsV.all k rv
  subst ei
  obtain ⟨oc, od', oda, osl⟩ := ob
  dsimp only at hc hd
  subst hc hd
  exact PySem.W.kia_tup T.kit I.kIn J ho e (fun z => nomatch z) fun tk => ⟨.bl b, H, I.tok tk, rfl, q⟩
end
end Ev

set_option maxHeartbeats 2000000
/-! Readings step by step: one small lemma a construct, tried by one word. -/
namespace Ev
open PySem PySem.Spec PyProof.Rows L2
section
variable {K : PySem.W.Frag} {σ : L2.St} {H : Hp} {Q : VK} {D : Ends} {ta tb tc te : TE} {x y v : V} {xs ys : List V} {t u : TS} {a p l b : Addr} {o o' : HO} {i j : Int}
/-! heaps -/
theorem lk_new {u : HO} (h : H a = some u) (hp : H p = none) : upd H p o a = some u := by
  rw [upd_ne (ne_of_none h hp)]
  exact h
theorem lk_ne {u : HO} (ne : a ≠ p) (h : H a = some u) : upd H p o a = some u := by
  rw [upd_ne ne]
  exact h
theorem no_new (h : H a = none) (ne : a ≠ p) : upd H p o a = none := by
  rw [upd_ne ne]
  exact h
theorem no_back (h : upd H p o a = none) : H a = none := by
  by_cases e : a = p
  · subst e
    rw [upd_same] at h
    cases h
  · rw [upd_ne e] at h
    exact h
theorem ne_back (h : upd H p o a = none) : a ≠ p := fun e => by
  subst e
  rw [upd_same] at h
  cases h
theorem upd_none : upd H p o a = none ↔ a ≠ p ∧ H a = none := ⟨fun h => ⟨ne_back h, no_back h⟩, fun h => no_new h.2 h.1⟩
theorem lk_new' {u : HO} (hp : H p = none) (h : H a = some u) : upd H p o a = some u := lk_new h hp
/-! values -/
theorem rd_var {i : Nat} (h : σ[i]? = some (some v)) (q : Q v H) : tVar i σ H Q := ⟨v, h, q⟩
theorem rd_c (q : Q v H) : tC v σ H Q := q
theorem rd_op {r : R2} (h : ta σ H fun x H1 => tb σ H1 fun y H2 => r x y H2 Q) : tOp r ta tb σ H Q := h
theorem rd_un {r : V → Hp → VK → Prop} (h : ta σ H fun x H1 => r x H1 Q) : tUn r ta σ H Q := h
theorem rd_rI0 {g : Int → Int → V} (q : Q (g i j) H) : rI0 g (.int i) (.int j) H Q := ⟨i, j, rfl, rfl, q⟩
theorem rd_rI {C : Int → Int → Prop} {g : Int → Int → V} (c : C i j) (q : Q (g i j) H) : rI C g (.int i) (.int j) H Q := ⟨i, j, rfl, rfl, c, q⟩
theorem rd_rU {g : Int → V} (q : Q (g i) H) : rU g (.int i) H Q := ⟨i, rfl, q⟩
theorem rd_ixL (h : SqL K H a xs) (e : atI xs i = some v) (q : Q v H) : rIxL K (.ref a) (.int i) H Q := ⟨a, xs, i, v, rfl, rfl, h, e, q⟩
theorem rd_ixT (h : SqT K H a xs) (e : atI xs i = some v) (q : Q v H) : rIxT K (.ref a) (.int i) H Q := ⟨a, xs, i, v, rfl, rfl, h, e, q⟩
theorem rd_eq (h : scal x y = true) (q : Q (.bl (decide (x = y))) H) : rEq x y H Q := ⟨h, q⟩
theorem rd_ne (h : scal x y = true) (q : Q (.bl (!decide (x = y))) H) : rNe x y H Q := ⟨h, q⟩
theorem rd_tup {ta : TA} (h : ta σ H fun xs H1 => xs.length ≤ sizeLine ∧ ∀ p, H1 p = none → Q (.ref p) (upd H1 p (.tup xs))) : tTup ta σ H Q := h
theorem rd_lst {ta : TA} (h : ta σ H fun xs H1 => xs.length ≤ sizeLine ∧ ∀ p, H1 p = none → Q (.ref p) (upd H1 p (.lst xs))) : tLst ta σ H Q := h
theorem rd_size {n : Nat} {A : Prop} (hn : n ≤ 16777216) (h : A) : n ≤ sizeLine ∧ A := ⟨by rw [sizeLine_eq]; exact hn, h⟩
theorem rd_nil {Q : List V → Hp → Prop} (q : Q [] H) : tNil σ H Q := q
theorem rd_cons {tr : TA} {Q : List V → Hp → Prop} (h : ta σ H fun x H1 => tr σ H1 fun xs H2 => Q (x :: xs) H2) : tCons ta tr σ H Q := h
theorem rd_cb {r : List V → Hp → VK → Prop} {t : TA} (h : t σ H fun vs H1 => r vs H1 Q) : tCB r t σ H Q := h
theorem rd_call {sp : Sp} {dvs : List V} {E : XK} {t : TA} (h : t σ H fun vs H1 => sp (vs ++ dvs) H1 Q E) : tCall sp dvs E t σ H Q := h
theorem rd_sl {r : V → Option Int → Option Int → Hp → VK → Prop} {tl th : TO} (h : te σ H fun x H1 => tl σ H1 fun l H2 => th σ H2 fun u H3 => r x l u H3 Q) : tSl r te tl th σ H Q := h
theorem rd_no {Q : Option Int → Hp → Prop} (q : Q none H) : tNoPart σ H Q := q
theorem rd_part {Q : Option Int → Hp → Prop} (h : te σ H fun x H1 => ∃ i, x = .int i ∧ Q (some i) H1) : tPart te σ H Q := h
theorem rd_ex {Q : Int → Prop} (q : Q i) : ∃ j : Int, V.int i = .int j ∧ Q j := ⟨i, rfl, q⟩
theorem rd_slL {lo hi : Option Int} (h : SqL K H a xs) (q : ∀ p, H p = none → Q (.ref p) (upd H p (.lst (cutV xs lo hi)))) : rSlL K (.ref a) lo hi H Q := ⟨a, xs, rfl, h, q⟩
theorem rd_cat (h1 : H a = some (.lst xs)) (h2 : H b = some (.lst ys)) (hz : xs.length + ys.length ≤ 16777216) (q : ∀ p, H p = none → Q (.ref p) (upd H p (.lst (xs ++ ys)))) : rCat (.ref a) (.ref b) H Q :=
  ⟨a, b, xs, ys, rfl, rfl, h1, h2, by rw [sizeLine_eq]; exact hz, q⟩
theorem rd_ifE {c : TT} (h : c σ H fun k H1 => if k = true then ta σ H1 Q else tb σ H1 Q) : tIf c ta tb σ H Q := h
/-! tests -/
theorem rd_test {Q : Bool → Hp → Prop} (h : te σ H fun x H1 => ∃ k, x = .bl k ∧ Q k H1) : tTest te σ H Q := h
theorem rd_tB {Q : Bool → Hp → Prop} (h : te σ H fun x H1 => ∃ k, x = .bl k ∧ Q k H1) : tB te σ H Q := h
theorem rd_bl {c : Bool} {Q : Bool → Prop} (q : Q c) : ∃ k, V.bl c = .bl k ∧ Q k := ⟨c, rfl, q⟩
theorem rd_not {c : TT} {Q : Bool → Hp → Prop} (h : c σ H fun k H1 => Q (!k) H1) : tNot c σ H Q := h
theorem rd_and {c d : TT} {Q : Bool → Hp → Prop} (h : c σ H fun k H1 => if k = true then d σ H1 Q else Q false H1) : tAnd c d σ H Q := h
theorem rd_or {c d : TT} {Q : Bool → Hp → Prop} (h : c σ H fun k H1 => if k = true then Q true H1 else d σ H1 Q) : tOr c d σ H Q := h
theorem rd_notV (h : ta σ H fun x H1 => ∃ c, x = .bl c ∧ Q (.bl (!c)) H1) : tNotV ta σ H Q := h
theorem rd_andV (h : ta σ H fun x H1 => ∃ c, x = .bl c ∧ if c = true then tb σ H1 Q else Q (.bl false) H1) : tAndV ta tb σ H Q := h
theorem rd_orV (h : ta σ H fun x H1 => ∃ c, x = .bl c ∧ if c = true then Q (.bl true) H1 else tb σ H1 Q) : tOrV ta tb σ H Q := h
/-! statements -/
theorem rd_seq (h : t { D with nx := u D } σ H) : tSeq t u D σ H := h
theorem rd_next (h : D.nx σ H) : tNext D σ H := h
theorem rd_ret (h : te σ H D.rt) : tRet te D σ H := h
theorem rd_retN (h : D.rt .non H) : tRetN D σ H := h
theorem rd_if {c : TT} (h : c σ H fun k H1 => if k = true then t D σ H1 else u D σ H1) : tIfS c t u D σ H := h
theorem rd_drop (h : te σ H fun _ H1 => D.nx σ H1) : tDrop te D σ H := h
theorem rd_asg {g : TG} (h : te σ H fun x H1 => g x σ H1 D.nx) : tAsg te g D σ H := h
theorem rd_name {i : Nat} {Q : L2.St → Hp → Prop} (q : Q (σ.set i (some v)) H) : gName i v σ H Q := q
theorem rd_gtup {n : Nat} {g : TGs} {Q : L2.St → Hp → Prop} (h : SqT K H a xs) (e : xs.length = n) (q : g xs σ H Q) : gTup K n g (.ref a) σ H Q := ⟨a, xs, rfl, h, e, q⟩
theorem rd_gnil {Q : L2.St → Hp → Prop} (q : Q σ H) : gNil [] σ H Q := ⟨rfl, q⟩
theorem rd_gcons {g : TG} {gs : TGs} {Q : L2.St → Hp → Prop} (q : g v σ H fun σ' H' => gs xs σ' H' Q) : gCons g gs (v :: xs) σ H Q := ⟨v, xs, rfl, q⟩
theorem rd_gsub {to ti : TE} {s : TSet} {Q : L2.St → Hp → Prop} (h : to σ H fun o H1 => ti σ H1 fun i H2 => s o i v H2 fun H3 => Q σ H3) : gSub to ti s v σ H Q := h
theorem rd_setL {k : Nat} {Q : Hp → Prop} (h : H a = some (.lst xs)) (e : ixN xs.length i = some k) (q : Q (upd H a (.lst (xs.set k v)))) : rSetL (.ref a) (.int i) v H Q := ⟨a, xs, i, k, rfl, rfl, h, e, q⟩
/-! ifs -/
theorem rd_ite {p : Prop} [Decidable p] {A B : Prop} (h1 : p → A) (h2 : ¬ p → B) : if decide p = true then A else B := by
  by_cases h : p
  · rw [if_pos (decide_eq_true h)]
    exact h1 h
  · rw [if_neg (by rw [decide_eq_false h]; exact Bool.false_ne_true)]
    exact h2 h
theorem rd_iteN {p : Prop} [Decidable p] {A B : Prop} (h1 : ¬ p → A) (h2 : p → B) : if (!decide p) = true then A else B := by
  by_cases h : p
  · rw [if_neg (by rw [decide_eq_true h]; exact Bool.false_ne_true)]
    exact h2 h
  · rw [if_pos (by rw [decide_eq_false h]; rfl)]
    exact h1 h
theorem rd_T {A B : Prop} (h : A) : if true = true then A else B := by
  rw [if_pos rfl]
  exact h
theorem rd_F {A B : Prop} (h : B) : if false = true then A else B := by
  rw [if_neg Bool.false_ne_true]
  exact h
theorem rd_True {A B : Prop} {i : Decidable True} (h : A) : @ite Prop True i A B := by
  rw [if_pos trivial]
  exact h
theorem rd_False {A B : Prop} {i : Decidable False} (h : B) : @ite Prop False i A B := by
  rw [if_neg (fun z => z)]
  exact h
/-! built-ins -/
theorem rd_int {A : Int → Prop} {B : Prop} (q : A i) : (∃ j, [V.int i] = [.int j] ∧ A j) ∨ B := .inl ⟨i, rfl, q⟩
theorem rd_intB {c : Bool} {A : Int → Prop} (q : A (if c then 1 else 0)) : (∃ j, [V.bl c] = [.int j] ∧ A j) ∨ ∃ k, [V.bl c] = [.bl k] ∧ A (if k then 1 else 0) := .inr ⟨c, rfl, q⟩
theorem rd_one {A : Int → Prop} (q : A i) : ∃ j, [V.int i] = [.int j] ∧ A j := ⟨i, rfl, q⟩
theorem rd_two {A : Int → Int → Prop} (q : A i j) : ∃ k l, [V.int i, V.int j] = [.int k, .int l] ∧ A k l := ⟨i, j, rfl, q⟩
theorem rd_len {A : List V → Prop} (h : SqL K H a xs) (q : A xs) : ∃ p zs, [V.ref a] = [.ref p] ∧ (SqL K H p zs ∨ SqT K H p zs) ∧ A zs := ⟨a, xs, rfl, .inl h, q⟩
theorem rd_lenT {A : List V → Prop} (h : SqT K H a xs) (q : A xs) : ∃ p zs, [V.ref a] = [.ref p] ∧ (SqL K H p zs ∨ SqT K H p zs) ∧ A zs := ⟨a, xs, rfl, .inr h, q⟩
theorem at_int {ns : List Int} {i : Int} (h0 : 0 ≤ i) (h : i < (ns.length : Int)) : ∃ z, atI (ns.map V.int) i = some (.int z) := by
  obtain ⟨k, rfl⟩ : ∃ k : Nat, i = (k : Int) := ⟨i.toNat, by omega⟩
  have hk : k < ns.length := by omega
  exact ⟨ns[k], atI_nat (by rw [List.getElem?_map, List.getElem?_eq_getElem hk]; rfl)⟩
theorem pow_cond {i j : Int} (h0 : 0 ≤ j) (h3 : j ≤ 1000) (h1 : -10000000000000000000000000000000000000000 < i) (h2 : i < 10000000000000000000000000000000000000000) : CPowW i j := by
  have e : (10000000000000000000000000000000000000000 : Nat) < 2 ^ 2000 := by decide +kernel
  exact ⟨h0, h3, by omega⟩
/-! loops and comprehensions: first what they go over, then the turns -/
theorem rd_rng1 {ta : TA} {R : It → Hp → Prop} (h : ta σ H fun vs H1 => ∃ j : Int, vs = [.int j] ∧ -(2 ^ 62) ≤ j ∧ j < 2 ^ 62 ∧ R (Itr 0 j.toNat) H1) : iRng1 ta σ H R := h
theorem rd_rg {A : Prop} (h1 : 0 ≤ i) (h2 : i ≤ 1000000000000) (q : A) : -(2 ^ 62) ≤ i ∧ i < 2 ^ 62 ∧ A := ⟨by omega, by omega, q⟩
theorem rd_overL {R : It → Hp → Prop} (h : te σ H fun x H1 => ∃ a, x = .ref a ∧ (∃ xs, SqL K H1 a xs) ∧ R (Itl K a) H1) : iList K te σ H R := h
theorem rd_overT {R : It → Hp → Prop} (h : te σ H fun x H1 => ∃ a, x = .ref a ∧ (∃ xs, SqT K H1 a xs) ∧ R (Itt K a) H1) : iTup K te σ H R := h
theorem rd_atL {A : Addr → Prop} (h : SqL K H a xs) (q : A a) : ∃ b, V.ref a = .ref b ∧ (∃ ys, SqL K H b ys) ∧ A b := ⟨a, rfl, ⟨xs, h⟩, q⟩
theorem rd_atT {A : Addr → Prop} (h : SqT K H a xs) (q : A a) : ∃ b, V.ref a = .ref b ∧ (∃ ys, SqT K H b ys) ∧ A b := ⟨a, rfl, ⟨xs, h⟩, q⟩
theorem rd_forA {ta : TA} {g : TG} {tb : TS} (h : iRng1 ta σ H fun J H1 => tFor (fun _ H' R => R J H') g tb D σ H1) : tFor (iRng1 ta) g tb D σ H := h
theorem rd_forB {g : TG} {tb : TS} (h : iList K te σ H fun J H1 => tFor (fun _ H' R => R J H') g tb D σ H1) : tFor (iList K te) g tb D σ H := h
theorem rd_forC {g : TG} {tb : TS} (h : iTup K te σ H fun J H1 => tFor (fun _ H' R => R J H') g tb D σ H1) : tFor (iTup K te) g tb D σ H := h
theorem rd_lcA {ta : TA} {g : TG} {tt : TT} {vs : List Nat} (h : iRng1 ta σ H fun J H1 => tLc (fun _ H' R => R J H') g tt te vs σ H1 Q) : tLc (iRng1 ta) g tt te vs σ H Q := h
theorem rd_lcB {tl : TE} {g : TG} {tt : TT} {vs : List Nat} (h : iList K tl σ H fun J H1 => tLc (fun _ H' R => R J H') g tt te vs σ H1 Q) : tLc (iList K tl) g tt te vs σ H Q := h
theorem rd_lcC {tl : TE} {g : TG} {tt : TT} {vs : List Nat} (h : iTup K tl σ H fun J H1 => tLc (fun _ H' R => R J H') g tt te vs σ H1 Q) : tLc (iTup K tl) g tt te vs σ H Q := h
theorem rd_forR {lo : Int} {n : Nat} {g : TG} {tb : TS} (Pv : Nat → L2.St → Hp → Prop) (h0 : Pv 0 σ H) (hs : ∀ i σ H, i < n → Pv i σ H → g (.int (lo + i)) σ H fun σ2 H2 => tb { D with nx := Pv (i + 1), ct := Pv (i + 1), bk := D.nx } σ2 H2)
    (hd : ∀ σ H, Pv n σ H → D.nx σ H) : tFor (fun _ H' R => R (Itr lo n) H') g tb D σ H := for_range Pv h0 hs hd
theorem rd_forL {g : TG} {tb : TS} (Pv : Nat → L2.St → Hp → Prop) (h0 : Pv 0 σ H) (hl : ∀ i σ H, i ≤ xs.length → Pv i σ H → SqL K H a xs) (hs : ∀ i x σ H, xs[i]? = some x → Pv i σ H → g x σ H fun σ2 H2 => tb { D with nx := Pv (i + 1), ct := Pv (i + 1), bk := D.nx } σ2 H2)
    (hd : ∀ σ H, Pv xs.length σ H → D.nx σ H) : tFor (fun _ H' R => R (Itl K a) H') g tb D σ H := for_list Pv h0 hl hs hd
theorem rd_forT {g : TG} {tb : TS} (Pv : Nat → L2.St → Hp → Prop) (h0 : Pv 0 σ H) (hl : ∀ i σ H, i ≤ xs.length → Pv i σ H → SqT K H a xs) (hs : ∀ i x σ H, xs[i]? = some x → Pv i σ H → g x σ H fun σ2 H2 => tb { D with nx := Pv (i + 1), ct := Pv (i + 1), bk := D.nx } σ2 H2)
    (hd : ∀ σ H, Pv xs.length σ H → D.nx σ H) : tFor (fun _ H' R => R (Itt K a) H') g tb D σ H := for_tup Pv h0 hl hs hd
/-- [e for x in range(n)], e a value of the turn that makes nothing new -/
theorem rd_lcN {s n : Nat} (f : Nat → V) (hn : n ≤ 16777215) (he : ∀ (i : Nat) (H' : Hp) (Q' : VK), i < n → Q' (f i) H' → te ((σ.set s none).set s (some (.int (0 + i)))) H' Q')
    (q : ∀ l, H l = none → Q (.ref l) (upd H l (.lst ((List.range n).map f)))) : tLc (fun _ H' R => R (Itr 0 n) H') (gName s) tYes te [s] σ H Q := fun l hl => by
  have w1 : ∀ x : Option V, L2.wipe ((L2.wipe σ [s]).set s x) [s] = L2.wipe σ [s] := fun x => by
    show ((σ.set s none).set s x).set s none = σ.set s none
    rw [List.set_set, List.set_set]
  refine lc_range (fun i H' => H' = upd H l (.lst ((List.range i).map f))) rfl (fun i H' hi e => ?_) (fun H' e => ?_)
  · subst e
    refine ⟨w1 _, ?_⟩
    dsimp only [tYes]
    rw [if_pos rfl]
    refine he i _ _ hi ?_
    refine ⟨_, upd_same, ?_, ?_⟩
    · rw [List.length_map, List.length_range, sizeLine_eq]
      omega
    · rw [upd_upd, List.range_succ, List.map_append]
      rfl
  · subst e
    exact q l hl
theorem rd_strs {i j : Str} {A : Str → Str → Prop} (hz : i.length + j.length ≤ sizeLine) (q : A i j) : ∃ k l, V.str i = .str k ∧ V.str j = .str l ∧ k.length + l.length ≤ sizeLine ∧ A k l := ⟨i, j, rfl, rfl, hz, q⟩
/-- xs.append(e) -/
theorem rd_bm {T : String} {r : V → List V → Hp → VK → Prop} {t : TA} (h : te σ H fun x H1 => tyV K T x H1 ∧ t σ H1 fun xs H2 => r x xs H2 Q) : tBM K T r te t σ H Q := h
theorem rd_tyL {A : Prop} (h : SqL K H a xs) (q : A) : tyV K "list" (.ref a) H ∧ A := ⟨.inl ⟨rfl, xs, h⟩, q⟩
theorem rd_append (h : H a = some (.lst xs)) (hz : xs.length < 16777216) (q : Q .non (upd H a (.lst (xs ++ [y])))) : rAppend (.ref a) [y] H Q := ⟨a, xs, y, rfl, rfl, h, by rw [sizeLine_eq]; exact hz, q⟩
/-- a text of what x is -/
theorem rd_repr {d : PyData} (h : Dp K H x d) (h1 : d.showable = true) (h2 : d.hasDict = false) (h3 : d.depth ≤ 100) (h4 : d.shown.length ≤ sizeLine) (q : Q (.str d.shown) H) : rRepr K [x] H Q := ⟨x, d, rfl, h, h1, h2, h3, h4, q⟩
end
/-! ### exceptions as values -/
/-- at a: an error of the class at C with this value -/
def ExAt (H : Hp) (a C : Addr) (v : V) : Prop := ∃ d, H a = some (exo a C (some d)) ∧ H d = some (exd d [(("value" : Str), v)])
theorem ExAt.mono {H H' : Hp} {a C : Addr} {v : V} (h : ExAt H a C v) (s : Same H H') : ExAt H' a C v := by
  obtain ⟨d, h1, h2⟩ := h
  exact ⟨d, s _ _ h1, s _ _ h2⟩
/-- the error class x at C -/
structure ExT (K : PySem.W.Frag) (mg : Str → Option Value) (x : Str) (C fI : Addr) : Prop where
  c : OexC K C
  i : PySem.W.findIn K (.ref C) "__init__" = some (some (.ref fI))
  t : PySem.W.typeIn K (.ref fI) = some (.type "function")
  g : mg x = some (.ref C)
  v : ExV K C
  n : PySem.W.findIn K (.ref C) "value" = some none
theorem ExAt.put {H : Hp} {a C p : Addr} {v : V} {xs : List V} {o : HO} (h : ExAt H a C v) (hp : H p = some (.lst xs)) : ExAt (upd H p o) a C v := by
  obtain ⟨d, h1, h2⟩ := h
  have n1 : a ≠ p := ne_of h1 hp fun z => by
    have z' : HO.ext _ = HO.lst xs := z
    cases z'
  have n2 : d ≠ p := ne_of h2 hp fun z => by
    have z' : HO.ext _ = HO.lst xs := z
    cases z'
  exact ⟨d, lk_ne n1 h1, lk_ne n2 h2⟩
/-- self.value = value -/
def spInit (K : PySem.W.Frag) : Sp := fun vs H Q _ => ∃ (a C : Addr) (v : V), vs = [.ref a, v] ∧ H a = some (exo a C none) ∧ OexC K C ∧ PySem.W.findIn K (.ref C) "value" = some none ∧
  ∀ d, H d = none → d ≠ a → Q .non (upd (upd H d (exd d [(("value" : Str), v)])) a (exo a C (some d)))
theorem same_lk {H H' : Hp} {a : Addr} {u : HO} (s : Same H H') (h : H a = some u) : H' a = some u := s _ _ h
theorem same_new {H H' : Hp} {p : Addr} {o : HO} (s : Same H H') (h : H' p = none) : Same H (upd H' p o) := fun b u e => lk_new (s b u e) h
theorem same_put {H H' : Hp} {p : Addr} {o : HO} (s : Same H H') (h : H p = none) : Same H (upd H' p o) := fun b u e => by
  rw [upd_ne (ne_of_none e h)]
  exact s b u e
theorem Same.new {H : Hp} {p : Addr} {o : HO} (h : H p = none) : Same H (upd H p o) := fun b u e => lk_new e h
section
variable {K : PySem.W.Frag} {mg : Str → Option Value} {σ : L2.St} {H : Hp} {v : V} {x : Str} {C fI : Addr}
theorem rd_mk {Q : Addr → Hp → Prop} (T : ExT K mg x C fI) (q : ∀ a H', ExAt H' a C v → Same H H' → H a = none → Q a H') :
    ∃ y, [v] = [y] ∧ ∀ a, H a = none → spInit K [.ref a, y] (upd H a (exo a C none)) (fun u H2 => u = .non ∧ Q a H2) (fun _ _ _ => False) := by
  refine ⟨v, rfl, fun a ha => ⟨a, C, v, rfl, upd_same, T.c, T.n, fun d hd ne => ⟨rfl, q a _ ⟨d, upd_same, ?_⟩ (fun b o e => ?_) ha⟩⟩⟩
  · rw [upd_ne ne, upd_same]
  · have h1 : b ≠ a := ne_of_none e ha
    have h2 : b ≠ d := ne_of_none (lk_new e ha) hd
    rw [upd_ne h1, upd_ne h2, upd_ne h1]
    exact e
theorem rd_mkv {sp : Sp} {ta : TA} {Q : VK} (h : ta σ H fun vs H1 => ∃ y, vs = [y] ∧ ∀ a, H1 a = none → sp [.ref a, y] (upd H1 a (exo a C none)) (fun v H2 => v = .non ∧ Q (.ref a) H2) (fun _ _ _ => False)) : tMkV C sp ta σ H Q := h
theorem rd_xv {Q : VK} {te : TE} {f : Str} (h : te σ H fun x H1 => ∃ (a C dx : Addr) (fs : List (Str × V)) (v : V), x = .ref a ∧ H1 a = some (exo a C (some dx)) ∧ H1 dx = some (exd dx fs) ∧ ExV K C ∧ PySem.W.findIn K (.ref C) f = some none ∧ fs.lookup f = some v ∧ Q v H1) : tXv K f te σ H Q := h
theorem rd_value {a : Addr} {Q : V → Prop} (h : ExAt H a C v) (T : ExT K mg x C fI) (q : Q v) :
    ∃ (a' C : Addr) (dx : Addr) (fs : List (Str × V)) (v' : V), V.ref a = .ref a' ∧ H a' = some (exo a' C (some dx)) ∧ H dx = some (exd dx fs) ∧ ExV K C ∧ PySem.W.findIn K (.ref C) "value" = some none ∧ fs.lookup ("value" : Str) = some v' ∧ Q v' := by
  obtain ⟨d, h1, h2⟩ := h
  exact ⟨a, C, d, _, v, rfl, h1, h2, T.v, T.n, by simp [List.lookup], q⟩
/-- isinstance(e, c) -/
theorem rd_isV {a : Addr} {c : V} {u : Value} {b : Bool} {Q : VK} (h : ExAt H a C v) (T : ExV K C) (hc : ClsV c u) (e : PySem.W.kitOne K (.ref C) u = some b) (q : Q (.bl b) H) : rIsV K [.ref a, c] H Q := by
  obtain ⟨d, h1, h2⟩ := h
  exact ⟨a, C, d, _, c, u, b, rfl, hc, h1, h2, T, e, q⟩
theorem rd_isi {y c : V} {t u : Value} {b : Bool} {Q : VK} (hc : ClsV c u) (ty : TyX K H y t) (e : PySem.W.kitOne K t u = some b) (q : Q (.bl b) H) : rIsi K [y, c] H Q := ⟨y, c, t, u, b, rfl, hc, ty, e, q⟩
end
end Ev

set_option maxHeartbeats 2000000
/-! Caught errors of own classes with a value of their own; makings that may raise in a try; enumerate. -/
namespace Ev
open PySem PySem.Spec PyProof.Rows L2 PySem.HandSPX
/-- what the suite knows of its error -/
structure Held (K : PySem.W.Frag) (H : Hp) (cls : Value) (d : Option Addr) (C : Addr) (fs : List (Str × V)) : Prop where
  c : cls = .ref C
  d : ∃ dd, d = some dd ∧ H dd = some (.xd fs)
  v : ExV K C
theorem held_at {X : Cx} {pins : List (Addr × Obj)} {pn : List (Addr × Obj)} {σ : L2.St} {H : Hp} {s : Shared} {a C : Addr} {oe : Obj} {cls : Value} {d : Option Addr} {fs : List (Str × V)} (I : Inv (X.suite a ((a, oe) :: pn)) pins σ H s) (hz : Zc cls d oe) (hf : ∃ vs, oe.data = .fields vs)
    (h : Held X.K H cls d C fs) : ∃ od : Obj, PySem.W.InstAt s.heap a oe C (some od) ∧ ∀ (f : Str) (v : V), fs.lookup f = some v → ∃ u, PySem.W.lookIn f od = some (some u) ∧ RelV v u := by
  obtain ⟨rfl, ⟨dd, rfl, ed⟩, T⟩ := h
  obtain ⟨hat, _⟩ := I.pin (a, oe) (List.mem_append_left _ List.mem_cons_self)
  obtain ⟨vs, hv⟩ := hf
  obtain ⟨mA, hns, hrel⟩ := (show ObjOk X.prog X.w H s.heap dd (.xd fs) from I.hok dd _ ed)
  obtain ⟨od, hod, look⟩ := lookIn_ns hns
  refine ⟨od, ⟨hat, hz.1, ?_, ?_⟩, fun f v hl => ?_⟩
  · unfold PySem.W.notCls
    rw [hv] <;> rfl
  · rw [hz.2]
    exact hod
  · obtain ⟨u, hu, ru⟩ := RelO.some_of (v := v) (o := mA f) (by rw [← hl]; exact hrel f)
    exact ⟨u, by rw [look, hu], ru⟩
/-- e.f, e the error that the suite holds -/
def tXs (K : PySem.W.Frag) (a : Addr) (cls : Value) (d : Option Addr) (f : Str) (te : TE) : TE := fun σ H Q => te σ H fun x H1 => x = .ref a ∧ ∃ (C : Addr) (fs : List (Str × V)) (v : V), Held K H1 cls d C fs ∧ PySem.W.findIn K (.ref C) f = some none ∧ fs.lookup f = some v ∧ Q v H1
section
variable {X : Cx} {a : Addr} {oe : Obj} {cls : Value} {d : Option Addr} {pn : List (Addr × Obj)} {pos : Pos}
theorem pe_xs {o : Expr} {to : TE} {f : Str} (hz : Zc cls d oe) (hf : ∃ vs, oe.data = .fields vs) (he : PE (X.suite a ((a, oe) :: pn)) o to) (hb : attributeBase o f X.env (eval o X.env) = eval o X.env := by rfl) :
    PE (X.suite a ((a, oe) :: pn)) (.Attribute o f pos) (tXs X.K a cls d f to) := ⟨fun pins s σ H Q I h => by
  refine attr_of hb (thn (he.run pins s σ H _ I h) fun u s1 got => ?_)
  obtain ⟨x, H1, I1, rx, rfl, C, fs, v, hd, hno, hl, q⟩ := got
  obtain rfl : u = Value.ref a := rx
  obtain ⟨od, J, look⟩ := held_at I1 hz hf hd
  obtain ⟨u, hu, ru⟩ := look f v hl
  exact exc_get I1.kIn J hd.v.ga hd.v.gg hd.v.ex (PySem.W.findObj_own hd.v.hd hno rfl hu) (handed_of ru) ⟨v, H1, I1.tok _, ru, q⟩⟩
/-- isinstance(e, c), isinstance(e, (c1, c2, ..)) -/
def rIsS (K : PySem.W.Frag) (a : Addr) (cls : Value) (d : Option Addr) : List V → Hp → VK → Prop := fun xs H Q => ∃ (C : Addr) (fs : List (Str × V)) (c : V) (u : Value) (b : Bool), xs = [.ref a, c] ∧ ClsV c u ∧ Held K H cls d C fs ∧ PySem.W.kitOne K (.ref C) u = some b ∧ Q (.bl b) H
def rIsST (K : PySem.W.Frag) (a : Addr) (cls : Value) (d : Option Addr) : List V → Hp → VK → Prop := fun xs H Q => ∃ (C tp : Addr) (fs : List (Str × V)) (cs : List V) (us : List Value) (b : Bool), xs = [.ref a, .ref tp] ∧ H tp = some (.tup cs) ∧ Paired ClsV cs us ∧ Held K H cls d C fs ∧
  PySem.W.kitAny K (.ref C) us = some b ∧ Q (.bl b) H
theorem call_isS (hz : Zc cls d oe) (hf : ∃ vs, oe.data = .fields vs) : CallR (X.suite a ((a, oe) :: pn)) (.builtin "isinstance") (rIsS X.K a cls d) := by
  intro pins s σ H xs us Q I r h
  obtain ⟨C, fs, c, u, b, rfl, k, hd, e, q⟩ := h
  obtain ⟨u1, u2, rfl, r1, r2⟩ := vals2 r
  obtain rfl : u1 = Value.ref a := r1
  have e2 := k.eq r2
  subst e2
  obtain ⟨od, J, _⟩ := held_at I hz hf hd
  exact PySem.W.kia_one hd.v.kit I.kIn J e (fun z => nomatch z) fun tk => ⟨.bl b, H, I.tok tk, rfl, q⟩
theorem call_isST (hz : Zc cls d oe) (hf : ∃ vs, oe.data = .fields vs) : CallR (X.suite a ((a, oe) :: pn)) (.builtin "isinstance") (rIsST X.K a cls d) := by
  intro pins s σ H xs us Q I r h
  obtain ⟨C, tp, fs, cs, vs, b, rfl, etp, k, hd, e, q⟩ := h
  obtain ⟨u1, u2, rfl, r1, r2⟩ := vals2 r
  obtain rfl : u1 = Value.ref a := r1
  obtain rfl : u2 = Value.ref tp := r2
  obtain ⟨od, J, _⟩ := held_at I hz hf hd
  obtain ⟨_, its, rv, ob, ho, hc, n, hdt⟩ := (show ObjOk X.prog X.w H s.heap tp (.tup cs) from I.hok tp _ etp)
  have ei := ClsV.all k rv
  subst ei
  obtain ⟨oc, od', oda, osl⟩ := ob
  dsimp only at hc hdt
  subst hc hdt
  exact PySem.W.kia_tup hd.v.kit I.kIn J ho e (fun z => nomatch z) fun tk => ⟨.bl b, H, I.tok tk, rfl, q⟩
/-- what a making in a try may let out: the frame's slots keep their number -/
def WL (W : WX) (n : Nat) : XK := fun cls d H => ∀ σ : L2.St, σ.length = n → W cls d σ H
theorem passL {W : WX} {n : Nat} (tk : Takes X W) (e : X.N.length = n) : Passes (L2.CX X.prog X.w) X (WL W n) := fun _ σ _ _ er s' I c => tk er s' (XE.of_call I (fun _ _ _ h => h σ (I.len.trans e)) c)
end
/-! enumerate -/
section
variable {K : PySem.W.Frag} {σ : L2.St} {H : Hp} {D : Ends} {a : Addr} {xs : List V}
theorem rd_forD {ta : TA} {g : TG} {tb : TS} (h : ta σ H fun vs H1 => ∃ b ys, vs = [.ref b] ∧ SqL K H1 b ys ∧ tFor (fun _ H' R => R (Ite K b) H') g tb D σ H1) : tFor (iEnum K ta) g tb D σ H := h
theorem rd_enumL {A : Addr → Prop} (h : SqL K H a xs) (q : A a) : ∃ b ys, [V.ref a] = [.ref b] ∧ SqL K H b ys ∧ A b := ⟨a, xs, rfl, h, q⟩
theorem rd_forE {g : TG} {tb : TS} (Pv : Nat → L2.St → Hp → Prop) (h0 : Pv 0 σ H) (hl : ∀ i σ H, i ≤ xs.length → Pv i σ H → SqL K H a xs)
    (hs : ∀ (i : Nat) x σ H p, xs[i]? = some x → Pv i σ H → H p = none → g (.ref p) σ (upd H p (.tup [.int i, x])) fun σ2 H2 => tb { D with nx := Pv (i + 1), ct := Pv (i + 1), bk := D.nx } σ2 H2)
    (hd : ∀ σ H, Pv xs.length σ H → D.nx σ H) : tFor (fun _ H' R => R (Ite K a) H') g tb D σ H := by
  refine ⟨fun j left σ' H' => left = xs.length - j ∧ j ≤ xs.length ∧ Pv j σ' H', ⟨xs.length, by omega, by omega, h0⟩, fun j left σ' H' st => ?_⟩
  obtain ⟨rfl, hj, pj⟩ := st
  have hq := hl j σ' H' hj pj
  by_cases lt : j < xs.length
  · refine .inr ⟨⟨xs, xs[j], hq, List.getElem?_eq_getElem lt⟩, Pv (j + 1), fun σ2 H2 p2 => ⟨xs.length - (j + 1), by omega, rfl, by omega, p2⟩, fun v H2 y => ?_⟩
    obtain ⟨p, x, rfl, hp, rfl, hx⟩ := y
    exact hs j x σ' H' p (hx xs hq) pj hp
  · obtain rfl : j = xs.length := by omega
    exact .inl ⟨⟨xs, hq, Nat.le_refl _⟩, hd σ' H' pj⟩
end
end Ev

/-! A text as often as 0 or 1. -/
namespace Ev
open PySem PySem.Spec PyProof.Rows L2
def rep01 (i : Str) (k : Bool) : Str := if k = true then i else Str.empty
theorem op_rep01 {X : Cx} : OpR X (binaryOp .Mult) (fun x y H Q => ∃ (i : Str) (k : Bool), x = .str i ∧ y = .int (if k = true then 1 else 0) ∧ Q (.str (rep01 i k)) H) := by
  intro pins s σ H x y v u Q I rx ry h
  obtain ⟨i, k, rfl, rfl, q⟩ := h
  obtain ⟨t, rfl⟩ := rx
  obtain ⟨t', rfl⟩ := ry
  cases k with
  | true => exact P.mul_str (n := 1) (by decide) (fun _ z => absurd z (by simp)) (fun _ z => absurd z (by simp)) (by rw [if_neg (by decide), if_pos (by simp)]; exact ⟨.str i, H, I, ⟨_, rfl⟩, q⟩)
  | false => exact P.mul_str (n := 0) (by decide) (fun z => absurd (by decide) z) (fun z => absurd (by decide) z) (by rw [if_pos (by decide)]; exact ⟨by decide, .str Str.empty, H, I.tok _, ⟨_, rfl⟩, q⟩)
end Ev

/-! How long texts of lists, tuples and whole numbers are. -/
namespace Ev
open PySem PySem.Spec PyProof.Rows L2
theorem len_listText (ts : List Str) : (listText ts).length ≤ piled ts + 2 := by
  cases ts with
  | nil => exact (by decide : (listText []).length ≤ 2)
  | cons t r =>
    have e : listText (t :: r) = textFrom 1 (("[" : Str) ++ t) r ++ ("]" : Str) := rfl
    rw [e, Str.length_append, textFrom_length_pos r 1 _ (by decide), Str.length_append, piled_cons]
    have e1 : ("[" : Str).length = 1 := by decide
    have e2 : ("]" : Str).length = 1 := by decide
    omega
theorem len_tupleText (t u : Str) (r : List Str) : (PySem.tupleText (t :: u :: r)).length ≤ piled (t :: u :: r) := by
  have e : PySem.tupleText (t :: u :: r) = ("(" : Str) ++ Str.join ", " (t :: u :: r) ++ (")" : Str) := by
    unfold PySem.tupleText
    rw [if_neg (by simp)]
  rw [e, Str.length_append, Str.length_append]
  have e1 : ("(" : Str).length = 1 := by decide
  have e2 : (")" : Str).length = 1 := by decide
  have := join_length_add (t :: u :: r) (by simp)
  omega
theorem shown_int {i : Int} (h : i.natAbs < 10 ^ 9) : (PyData.int i).shown.length ≤ 10 := by
  have e : (PyData.int i).shown = Str.ofString (toString i) := by simp only [PyData.shown]
  rw [e, PySem.ofString_length]
  exact int_text_length_le10 (by decide) h
theorem show_int {i : Int} (h : i.natAbs < 10 ^ 9) : (PyData.int i).showable = true := by
  have hb : i.natAbs.log2 < 1920 := by
    have e : (10 : Nat) ^ 9 < 2 ^ 1900 := by decide +kernel
    exact Nat.lt_of_lt_of_le (PySem.Flt.log2_lt_of (by decide) (Nat.lt_trans h e)) (by decide)
  simpa [PyData.showable] using hb

/-- what repr wants of a value, and how long its text is at most -/
structure Sh (d : PyData) (n k : Nat) : Prop where
  s : d.showable = true
  h : d.hasDict = false
  e : d.depth ≤ k
  l : d.shown.length ≤ n
theorem Sh.int {i : Int} (h : i.natAbs < 10 ^ 9) : Sh (.int i) 10 0 := ⟨show_int h, by simp only [PyData.hasDict], by simp [PyData.depth], shown_int h⟩
theorem Sh.str1 (x : Str) (h : (PyData.str x).shown.length ≤ 10) : Sh (.str x) 10 0 := ⟨by simp only [PyData.showable], by simp only [PyData.hasDict], by simp [PyData.depth], h⟩
theorem Sh.mono {d : PyData} {n k m j : Nat} (h : Sh d n k) (a : n ≤ m) (b : k ≤ j) : Sh d m j := ⟨h.s, h.h, Nat.le_trans h.e b, Nat.le_trans h.l a⟩
theorem sh_all {n k : Nat} : ∀ ds : List PyData, (∀ d ∈ ds, Sh d n k) → PyData.showableAll ds = true ∧ PyData.hasDictAll ds = false ∧ PyData.depthAll ds ≤ k ∧ piled (PyData.shownAll ds) ≤ (n + 2) * ds.length
  | [], _ => ⟨by simp only [PyData.showableAll], by simp only [PyData.hasDictAll], by simp [PyData.depthAll], by simp only [PyData.shownAll]; exact Nat.zero_le _⟩
  | d :: ds, h => by
    obtain ⟨a, b, c, e⟩ := sh_all ds fun x hx => h x (List.mem_cons_of_mem _ hx)
    have q := h d List.mem_cons_self
    refine ⟨?_, ?_, ?_, ?_⟩
    · simp only [PyData.showableAll, q.s, a, Bool.and_self]
    · simp only [PyData.hasDictAll, q.h, b, Bool.or_self]
    · simp only [PyData.depthAll]
      have := q.e
      omega
    · simp only [PyData.shownAll]
      rw [piled_cons, List.length_cons, Nat.mul_succ]
      have := q.l
      omega
theorem Sh.list {n k : Nat} {ds : List PyData} (h : ∀ d ∈ ds, Sh d n k) : Sh (.list ds) ((n + 2) * ds.length + 2) (k + 1) := by
  obtain ⟨a, b, c, e⟩ := sh_all ds h
  refine ⟨by simp only [PyData.showable]; exact a, by simp only [PyData.hasDict]; exact b, by simp only [PyData.depth]; omega, ?_⟩
  simp only [PyData.shown]
  exact Nat.le_trans (len_listText _) (by omega)
theorem Sh.tup {n k : Nat} {x y : PyData} {ds : List PyData} (h : ∀ d ∈ x :: y :: ds, Sh d n k) : Sh (.tuple (x :: y :: ds)) ((n + 2) * (ds.length + 2)) (k + 1) := by
  obtain ⟨a, b, c, e⟩ := sh_all (x :: y :: ds) h
  refine ⟨by simp only [PyData.showable]; exact a, by simp only [PyData.hasDict]; exact b, by simp only [PyData.depth]; omega, ?_⟩
  simp only [PyData.shown, PyData.shownAll] at e ⊢
  exact Nat.le_trans (len_tupleText _ _ _) e
end Ev

/-! A method of an own class, called with keywords alone. -/
namespace Ev
open PySem PySem.Spec PyProof.Rows L2
def tMethK (C : Addr) (m : Str) (n : Nat) (sp : Sp) (gV : List V → List V → List V) (E : XK) (ta : TE) (tk : TA) : TE := fun σ H Q => ta σ H fun x H1 => ∃ (a dx : Addr) (fs : List (Str × V)), x = .ref a ∧ H1 a = some (.ins C dx fs) ∧ fs.lookup m = none ∧
  tk σ H1 fun zs H2 => zs.length = n ∧ sp (gV [.ref a] zs) H2 Q E
section
variable {X : Cx} {CX : CXT} {k : Nat} {C f : Addr} {fd : FuncData} {ps ks : List Str} {sp : Sp} {E : XK} {m : Str} {apos pos : Pos} {o : Expr} {kws : List Keyword} {ta : TE} {tk : TA} {g : List Value → List Value → List Value} {gV : List V → List V → List V}
theorem pe_methKw {pl : Sem Bool} (he : PE X o ta) (c : Cls X.K C) (hm : Meth X.K C m f) (G : FnOk X.prog X.w X.K X.mg X.base CX k f fd ps sp) (hr : Room k X.A) (kb : KBn X.K fd ps 1 ks g gV) (hx : Passes CX X E) (hkw : PK X kws tk)
    (ht : eval (.Call (.Attribute o m apos) [] kws pos) X.env = (do let ov ← eval o X.env; standAt apos.atName; let (f, first) ← holding [ov] (getMethod ov m pl); callWith pos f first (backTo pos (starEach [] X.env)) (backToKw pos (keywordEach kws X.env))) := by rfl)
    (hall : (backToKw pos (keywordEach kws X.env)).all (·.1.isSome) = true := by rfl) (hks : (backToKw pos (keywordEach kws X.env)).filterMap (·.1) = ks := by rfl)
    (hpl : ((backTo pos (starEach [] X.env)).any (·.1) || (backToKw pos (keywordEach kws X.env)).any (·.1.isNone)) = false := by rfl) :
    PE X (.Call (.Attribute o m apos) [] kws pos) (tMethK C m ks.length sp gV E ta tk) := ⟨fun pins s σ H Q I h => by
  refine PySem.W.methodCall_KW (pl := pl) (thn (he.run pins s σ H _ I h) fun u s1 got => ?_) ht
  obtain ⟨x, H1, I1, rx, a, dx, fs, rfl, ea, hl, q⟩ := got
  obtain rfl : u = Value.ref a := rx
  refine getmeth_ok I1 ea c hm hl ?_
  refine PySem.W.callWith_KW0 (first := [.ref a]) (h₀ := X.base) I.ok.mod.kin hm.kp hall ?_ hpl
  refine thn (hkw.run pos pins s1 σ H1 _ I1 q) fun ws s2 got2 => ?_
  obtain ⟨zs, H2, I2, rz, lz, hsp⟩ := got2
  refine ⟨I2.kIn, ?_⟩
  rw [hks]
  have r1 : Vals [V.ref a] [Value.ref a] := .cons rfl .nil
  show wpAny _ _ (call (.ref f) [.ref a] (ks.zip ws)) _ _ _
  refine wpAny_call (codeAny_mono (G.run X.A X.stack s2 H2 ⟨[.ref a], ks.zip ws⟩ (g [.ref a] ws) (gV [.ref a] zs) Q E hr I2.env0 (kb.to s2 [.ref a] ws I2.kIn rfl (rz.length.symm.trans lz)) (kb.rel r1 rz) hsp) fun r s' hq => ?_)
  rcases r with er | (_ | _ | _ | w)
  · exact hx pins σ H2 s2 er s' I2 hq
  · exact False.elim hq
  · exact False.elim hq
  · exact False.elim hq
  · exact I2.after hq⟩
end
end Ev

/-! A def called with keywords alone; defs that may raise, called where nothing is caught, and within a try. -/
namespace Ev
open PySem PySem.Spec PyProof.Rows L2
section
variable {X : Cx} {CX : CXT} {k : Nat} {f : Addr} {fd : FuncData} {ps ks : List Str} {sp : Sp} {E : XK} {x : Str} {p pos : Pos} {kws : List Keyword} {tk : TA} {g : List Value → List Value → List Value} {gV : List V → List V → List V}
def tCallK0 (m : Nat) (sp : Sp) (gV : List V → List V → List V) (E : XK) (tk : TA) : TE := fun σ H Q => tk σ H fun zs H2 => zs.length = m ∧ sp (gV [] zs) H2 Q E
theorem pe_callK0 (F : FnOk X.prog X.w X.K X.mg X.base CX k f fd ps sp) (hr : Room k X.A) (hg : Gl X x) (hm : X.mg x = some (.ref f)) (hk : PySem.W.keepIn X.K (.ref f) = true) (hb : KBn X.K fd ps 0 ks g gV) (hx : Passes CX X E) (hkw : PK X kws tk)
    (hall : (backToKw pos (keywordEach kws X.env)).all (·.1.isSome) = true := by rfl) (hks : (backToKw pos (keywordEach kws X.env)).filterMap (·.1) = ks := by rfl) (hdb : (x == ("__debug__" : Str)) = false := by decide)
    (hpl : ((backTo pos (starEach [] X.env)).any (·.1) || (backToKw pos (keywordEach kws X.env)).any (·.1.isNone)) = false := by rfl) :
    PE X (.Call (.Name x p) [] kws pos) (tCallK0 ks.length sp gV E tk) := by
  refine ⟨fun pins s σ H Q I h => ?_⟩
  refine wpAny_Call_Name_kw (ld_glob I hg hm ?_ hdb)
  refine PySem.W.callWith_KW0 (h₀ := X.base) I.ok.mod.kin hk hall ?_ hpl
  refine thn (hkw.run pos pins s σ H _ I h) fun ws s2 ⟨zs, H2, I2, rz, l2, q2⟩ => ⟨I2.kIn, ?_⟩
  rw [hks]
  exact run_fnN (us := []) (vs := []) F hr hb hx I2 .nil rz rfl l2 q2
/-- an own def of the module that may raise, as a constant -/
structure CalX (P : Program) (w : World) (K : PySem.W.Frag) (mg : Str → Option Value) (base : Heap) (k : Nat) (x : Str) (f : Addr) (fd : FuncData) (ps : List Str) (sp : Sp) : Prop where
  F : FnOk P w K mg base (L2.CX P w) k f fd ps sp
  m : mg x = some (.ref f)
  kp : PySem.W.keepIn K (.ref f) = true
  b : Binds K fd ps []
theorem pe_cX {j : Nat} {e : Expr} {es : List Expr} {t : TA} (c : CalX X.prog X.w X.K X.mg X.base k x f fd ps sp) (hr : Room j X.A) (hk : k ≤ j) (hx : Passes (L2.CX X.prog X.w) X E) (hg : Gl X x) (ha : PA X (e :: es) t)
    (hdb : (x == ("__debug__" : Str)) = false := by decide) (he : starEach (e :: es) X.env = (false, eval e X.env) :: starEach es X.env := by rfl) (hpl : (backTo pos (starEach es X.env)).any (·.1) = false := by rfl) :
    PE X (.Call (.Name x p) (e :: es) [] pos) (tCall sp [] E t) := pe_call c.F (hr.mono hk) hg c.m c.kp c.b .nil hx ha hdb he hpl
theorem pe_cXK {j : Nat} (c : CalX X.prog X.w X.K X.mg X.base k x f fd ps sp) (hr : Room j X.A) (hk : k ≤ j) (hx : Passes (L2.CX X.prog X.w) X E) (hg : Gl X x) (hb : KBn X.K fd ps 0 ks g gV) (hkw : PK X kws tk)
    (hall : (backToKw pos (keywordEach kws X.env)).all (·.1.isSome) = true := by rfl) (hks : (backToKw pos (keywordEach kws X.env)).filterMap (·.1) = ks := by rfl) (hdb : (x == ("__debug__" : Str)) = false := by decide)
    (hpl : ((backTo pos (starEach [] X.env)).any (·.1) || (backToKw pos (keywordEach kws X.env)).any (·.1.isNone)) = false := by rfl) :
    PE X (.Call (.Name x p) [] kws pos) (tCallK0 ks.length sp gV E tk) := pe_callK0 c.F (hr.mono hk) hg c.m c.kp hb hx hkw hall hks hdb hpl
end
section
variable {σ : L2.St} {H : Hp}
theorem rd_callK0 {m : Nat} {sp : Sp} {gV : List V → List V → List V} {E : XK} {tk : TA} {Q : VK} (h : tk σ H fun zs H2 => zs.length = m ∧ sp (gV [] zs) H2 Q E) : tCallK0 m sp gV E tk σ H Q := h
theorem rd_notN {x : V} {Q : V → Prop} (q : Q (.bl (!decide (x = .non)))) : V.non = .non ∧ Q (.bl (!decide (x = .non))) := ⟨rfl, q⟩
end
end Ev

set_option maxHeartbeats 2000000
/-! A caught error handed to a def of one's own, within the suite that holds it: the def reads and asks it. -/
namespace Ev
open PySem PySem.Spec PyProof.Rows L2 PySem.HandSPX L2H
/-- a def that may be called in a suite, with the error that the suite holds -/
structure FnP (P : Program) (w : World) (K : PySem.W.Frag) (mg : Str → Option Value) (base : Heap) (k : Nat) (f : Addr) (fd : FuncData) (ps : List Str) (sp : Addr → Value → Option Addr → Sp) : Prop where
  len : ∀ a c d vs H Q E, sp a c d vs H Q E → vs.length = ps.length
  run : ∀ (A : Around) (outer : List Env) (s : PySem.Shared) (H : Hp) (args : Args) (us : List Value) (vs : List V) (Q : VK) (E : XK) (p : Addr × Obj) (c : Value) (d : Option Addr), RoomH k A → PinOk outer H s p → Zc c d p.2 → (∃ vs, p.2.data = .fields vs) → Env0 P w K mg base A outer s H → BindsTo s fd args (ps.zip us) → Vals vs us → sp p.1 c d vs H Q E →
    codeAny (model P w) A (.call (.ref f) args) (CR CX0 outer P w H s Q E) s
theorem fnP_of {P : Program} {w : World} {K : PySem.W.Frag} {mg : Str → Option Value} {base : Heap} {x qual : Str} {st : Stmt} {f : Addr} {fd : FuncData} {N ps : List Str} {k : Nat} {sp : Addr → Value → Option Addr → Sp} (F : Fun K x qual st f fd) (S : FnScope N ps (defScope st))
    (len : ∀ a c d vs H Q E, sp a c d vs H Q E → vs.length = ps.length)
    (hbody : ∀ (cdv : Value) (A : Around) (outer : List Env) (s : PySem.Shared) (H : Hp) (vs : List V) (Q : VK) (E : XK) (p : Addr × Obj) (c : Value) (d : Option Addr), RoomH k (A.deeper (envOfC qual (defScope st) s.heap.objs.size f cdv)) → Zc c d p.2 → (∃ vs, p.2.data = .fields vs) → sp p.1 c d vs H Q E →
      ∃ t, PSs (cxH CX0 P w K mg base N qual (defScope st) f cdv A outer s H E p) (defBody st) t ∧ t { nx := fun _ H' => Q .non H', rt := Q } (L2.start N vs) H) :
    FnP P w K mg base (k + 1) f fd ps sp := by
  obtain ⟨oc, od, kV, doc, pm, an, cdv, ct, osl, rfl, lk, hcd⟩ := F.ex
  refine ⟨len, fun A outer s H args us vs Q E p c d hr hpin hz hf e0 hb r hsp => ?_⟩
  have hl := len _ _ _ _ _ _ _ hsp
  have KX : K.In s.heap := e0.mod.kin.keeps fun b o e => (e0.bs b o e).1
  have lim : s.heap.NoLimit := e0.mod.nolimit.keeps fun b o e => (e0.bs b o e).1
  have hkind : ∀ y ∈ ps.zip us, (defScope st).names.lookup y.1 = some .local ∨ ((defScope st).names.lookup y.1 = some .cell ∧ ((cellsFrom (s.heap.objs.size + 1) (defScope st).names []).lookup y.1).isSome = true) := fun ⟨n, v⟩ hy => by
    rcases S.par n (List.of_mem_zip hy).1 with q | q
    · exact .inl q
    · exact .inr ⟨q, PySem.W.cellsFrom_some _ _ _ (.inl q)⟩
  refine codeAny_call_function hr.depth (KX _ _ lk) rfl S.co S.gen rfl (PySem.W.codeRec_of KX hcd) (hb _ _ _ _ ?_)
  refine wpAny_newFunctionEnv_cells S.kind hkind fun env he s1 x => ?_
  subst he
  refine ⟨lim.keeps x.toInCall.keep, codeAny_func ?_⟩
  obtain ⟨t, ht, hq⟩ := hbody cdv A outer s H vs Q E p c d (hr.deeper _) hz hf hsp
  have I : Inv (cxH CX0 P w K mg base N qual (defScope st) f cdv A outer s H E p) [] (L2.start N vs) H s1 := inv_startH S hpin e0 hl r x
  refine wpAny_mono (ht.run [] s1 (L2.start N vs) H _ I hq) (fun fl s' hs => ?_) fun e s' hs => hs
  have fin : ∀ {σ' : L2.St} {H' : Hp} {v : V} {u : Value}, Inv (cxH CX0 P w K mg base N qual (defScope st) f cdv A outer s H E p) [] σ' H' s' → RelV v u → Q v H' → CE outer P w H s Q u s' :=
    fun {σ' H' v u} J rv q => ⟨v, H', J.os, J.bare, J.base, J.hok, rv, q⟩
  cases fl with
  | ret u =>
    obtain ⟨v, σ', H', J, rv, q⟩ := hs
    exact fin J rv q
  | next =>
    obtain ⟨σ', H', J, q⟩ := hs
    exact fin (v := V.non) (u := Value.none) J rfl q
  | brk =>
    obtain ⟨_, _, _, q⟩ := hs
    exact False.elim q
  | cont =>
    obtain ⟨_, _, _, q⟩ := hs
    exact False.elim q
section
variable {X : Cx} {k : Nat} {f : Addr} {fd : FuncData} {ps : List Str} {sp : Addr → Value → Option Addr → Sp} {x : Str} {q pos : Pos} {e : Expr} {es : List Expr} {t : TA} {a : Addr} {oe : Obj} {cls : Value} {d : Option Addr}
theorem pe_callP (hp : (a, oe) ∈ X.pn) (hz : Zc cls d oe) (hf : ∃ vs, oe.data = .fields vs) (F : FnP X.prog X.w X.K X.mg X.base k f fd ps sp) (hr : RoomH k X.A) (hg : Gl X x) (hm : X.mg x = some (.ref f)) (hk : PySem.W.keepIn X.K (.ref f) = true) (hb : Binds X.K fd ps [])
    (ha : PA X (e :: es) t) (hdb : (x == ("__debug__" : Str)) = false := by decide) (he : starEach (e :: es) X.env = (false, eval e X.env) :: starEach es X.env := by rfl) (hpl : (backTo pos (starEach es X.env)).any (·.1) = false := by rfl) :
    PE X (.Call (.Name x q) (e :: es) [] pos) (tCall (sp a cls d) [] E0 t) := by
  refine ⟨fun pins s σ H Q I h => ?_⟩
  refine wpAny_Call_Name_kw (ld_glob I hg hm ?_ hdb)
  refine PySem.W.callWith_K (h₀ := X.base) I.ok.mod.kin hk (thn (ha.run pos pins s σ H _ I h) fun us s1 ⟨vs, H1, I1, r, q⟩ => ⟨I1.kIn, ?_⟩) he hpl
  have q : sp a cls d (vs ++ []) H1 Q E0 := q
  rw [List.append_nil] at q
  have hl : us.length = ps.length := by rw [← r.length]; exact F.len _ _ _ _ _ _ _ q
  have b := hb s1 us I1.kIn (by rw [List.append_nil]; exact hl)
  rw [List.append_nil] at b
  have P1 := I1.pin (a, oe) (List.mem_append_left _ hp)
  have hpin : PinOk X.stack H1 s1 (a, oe) := ⟨P1.1, P1.2.1, fun hm => (List.mem_cons.mp (I1.stkSub a hm)).elim P1.2.2.1 P1.2.2.2.1, P1.2.2.2.2⟩
  refine wpAny_call (codeAny_mono (F.run X.A X.stack s1 H1 ⟨us, []⟩ us vs Q E0 (a, oe) cls d hr hpin hz hf I1.env0 b r q) fun r s' hq => ?_)
  cases r with
  | error e => exact pass0 (X := X) pins σ H1 s1 e s' I1 hq
  | ok fl =>
    cases fl with
    | ret u => exact I1.after hq
    | next => exact False.elim hq
    | brk => exact False.elim hq
    | cont => exact False.elim hq
/-! what the def asks of the error -/
theorem held_pin {pins : List (Addr × Obj)} {σ : L2.St} {H : Hp} {s : PySem.Shared} {C : Addr} {fs : List (Str × V)} (hp : (a, oe) ∈ X.pn) (I : Inv X pins σ H s) (hz : Zc cls d oe) (hf : ∃ vs, oe.data = .fields vs)
    (h : Held X.K H cls d C fs) : ∃ od : Obj, PySem.W.InstAt s.heap a oe C (some od) ∧ ∀ (f : Str) (v : V), fs.lookup f = some v → ∃ u, PySem.W.lookIn f od = some (some u) ∧ RelV v u := by
  obtain ⟨rfl, ⟨dd, rfl, ed⟩, T⟩ := h
  obtain ⟨hat, _⟩ := I.pin (a, oe) (List.mem_append_left _ hp)
  obtain ⟨vs, hv⟩ := hf
  obtain ⟨mA, hns, hrel⟩ := (show ObjOk X.prog X.w H s.heap dd (.xd fs) from I.hok dd _ ed)
  obtain ⟨od, hod, look⟩ := lookIn_ns hns
  refine ⟨od, ⟨hat, hz.1, ?_, ?_⟩, fun f v hl => ?_⟩
  · unfold PySem.W.notCls
    rw [hv] <;> rfl
  · rw [hz.2]
    exact hod
  · obtain ⟨u, hu, ru⟩ := RelO.some_of (v := v) (o := mA f) (by rw [← hl]; exact hrel f)
    exact ⟨u, by rw [look, hu], ru⟩
theorem pe_xp {o : Expr} {to : TE} {f : Str} (hp : (a, oe) ∈ X.pn) (hz : Zc cls d oe) (hf : ∃ vs, oe.data = .fields vs) (he : PE X o to) (hb : attributeBase o f X.env (eval o X.env) = eval o X.env := by rfl) :
    PE X (.Attribute o f pos) (tXs X.K a cls d f to) := ⟨fun pins s σ H Q I h => by
  refine attr_of hb (thn (he.run pins s σ H _ I h) fun u s1 got => ?_)
  obtain ⟨x, H1, I1, rx, rfl, C, fs, v, hd, hno, hl, q⟩ := got
  obtain rfl : u = Value.ref a := rx
  obtain ⟨od, J, look⟩ := held_pin hp I1 hz hf hd
  obtain ⟨u, hu, ru⟩ := look f v hl
  exact exc_get I1.kIn J hd.v.ga hd.v.gg hd.v.ex (PySem.W.findObj_own hd.v.hd hno rfl hu) (handed_of ru) ⟨v, H1, I1.tok _, ru, q⟩⟩
theorem call_isP (hp : (a, oe) ∈ X.pn) (hz : Zc cls d oe) (hf : ∃ vs, oe.data = .fields vs) : CallR X (.builtin "isinstance") (rIsS X.K a cls d) := by
  intro pins s σ H xs us Q I r h
  obtain ⟨C, fs, c, u, b, rfl, k, hd, e, q⟩ := h
  obtain ⟨u1, u2, rfl, r1, r2⟩ := vals2 r
  obtain rfl : u1 = Value.ref a := r1
  have e2 := k.eq r2
  subst e2
  obtain ⟨od, J, _⟩ := held_pin hp I hz hf hd
  exact PySem.W.kia_one hd.v.kit I.kIn J e (fun z => nomatch z) fun tk => ⟨.bl b, H, I.tok tk, rfl, q⟩
theorem call_isPT (hp : (a, oe) ∈ X.pn) (hz : Zc cls d oe) (hf : ∃ vs, oe.data = .fields vs) : CallR X (.builtin "isinstance") (rIsST X.K a cls d) := by
  intro pins s σ H xs us Q I r h
  obtain ⟨C, tp, fs, cs, vs, b, rfl, etp, k, hd, e, q⟩ := h
  obtain ⟨u1, u2, rfl, r1, r2⟩ := vals2 r
  obtain rfl : u1 = Value.ref a := r1
  obtain rfl : u2 = Value.ref tp := r2
  obtain ⟨od, J, _⟩ := held_pin hp I hz hf hd
  obtain ⟨_, its, rv, ob, ho, hc, n, hdt⟩ := (show ObjOk X.prog X.w H s.heap tp (.tup cs) from I.hok tp _ etp)
  have ei := ClsV.all k rv
  subst ei
  obtain ⟨oc, od', oda, osl⟩ := ob
  dsimp only at hc hdt
  subst hc hdt
  exact PySem.W.kia_tup hd.v.kit I.kIn J ho e (fun z => nomatch z) fun tk => ⟨.bl b, H, I.tok tk, rfl, q⟩
end
end Ev

set_option maxHeartbeats 2000000
/-! == and != by an own __eq__, whatever it answers and whatever stands at the other side. -/
namespace Ev
open PySem PySem.Spec PyProof.Rows L2
/-- x == y, x of the class at C, by the def's promise -/
def rEqX (K : PySem.W.Frag) (C : Addr) (sp : Sp) : R2 := fun x y H Q => ∃ (a dx : Addr) (fs : List (Str × V)) (tb : Value), x = .ref a ∧ H a = some (.ins C dx fs) ∧ TyX K H y tb ∧ PySem.W.notFirst K C tb = true ∧ sp [.ref a, y] H (fun v H' => ∃ b, v = .bl b ∧ Q (.bl b) H') E0
/-- x != y, both of the class -/
def rNeX (C : Addr) (sp : Sp) : R2 := fun x y H Q => ∃ (a b dx dy : Addr) (fs gs : List (Str × V)), x = .ref a ∧ y = .ref b ∧ H a = some (.ins C dx fs) ∧ H b = some (.ins C dy gs) ∧ sp [.ref a, .ref b] H (fun v H' => ∃ c, v = .bl c ∧ Q (.bl (!c)) H') E0
/-- what the written part says of the class's object -/
structure ClsObj (K : PySem.W.Frag) (C f : Addr) : Prop where
  cls : ∃ nm q N bs hdct sn sub ab col dd k0 k1 k2 k3 k5 newId oN dN es ep slN, K.lookup C = some (excClassObj nm q C N bs [.type "object"] hdct sn sub ab col dd k0 k1 k2 k3 k5 newId) ∧ K.lookup N = some ⟨oN, dN, .dict es ep, slN⟩ ∧ StrKeys es ∧ nsFind es "__eq__" = some (.ref f) ∧ nsFind es "__ne__" = none
  fn : ∃ of, K.lookup f = some of ∧ of.cls = .type "function"
theorem strKeys_of {es : Array DictEntry} (h : (es.toList.all fun e => match e.key with | .str _ _ => true | _ => false) = true) : StrKeys es := fun e he => by
  have := List.all_eq_true.mp h e (by simpa using he)
  split at this
  · rename_i n t k
    exact ⟨n, t, k⟩
  · cases this
section
variable {X : Cx} {n : Nat} {C f : Addr} {fd : FuncData} {sp : Sp}
theorem op_eqX (F : FnOk X.prog X.w X.K X.mg X.base CX0 n f fd ["self", "other"] sp) (hs : PySem.W.findIn X.K (.ref C) "__eq__" = some (some (.ref f))) (hf : PySem.W.isFn X.K (.ref f) = true) (hb : Binds X.K fd ["self", "other"] []) (hr : Room n X.A) : OpR X (compareOp .Eq) (rEqX X.K C sp) := by
  intro pins s σ H x y v u Q I rx ry h
  obtain ⟨a, dx, fs, tb, rfl, ha, ty, nf, hsp⟩ := h
  cases rx
  show wpAny (model X.prog X.w) X.A (richCompare .Eq (.ref a) u) (EP X pins σ Q) X.xe s
  obtain ⟨mA, J, _⟩ := ins_get I.hok ha
  obtain ⟨od, J, _⟩ := J.look
  obtain ⟨P, kx, hP, _⟩ := kit_of I ry ty
  obtain ⟨m, hF⟩ := I.fr
  refine PySem.W.cmp_K (op := .Eq) (tb := tb) hr.units0 hF I.ok.mod.kin J (kx.ty _ _ I.kIn hP) nf hs hf ?_
  have e0 := I.env0
  have r2 : Vals [V.ref a, y] [Value.ref a, u] := .cons rfl (.cons ry .nil)
  refine wpAny_call (codeAny_mono (F.run X.A X.stack s H ⟨[.ref a, u], []⟩ [.ref a, u] [.ref a, y] _ E0 hr e0 (by
    have := hb s [.ref a, u] I.kIn rfl
    simpa using this) r2 hsp) fun r s' hq => ?_)
  cases r with
  | error e => exact pass0 (X := X) pins σ H s e s' I hq
  | ok fl =>
    cases fl with
    | ret w =>
      obtain ⟨z, H', I', rz, b, ez, q⟩ := I.after hq
      subst ez
      cases rz
      exact ⟨.bl b, H', I', rfl, q⟩
    | next => exact False.elim hq
    | brk => exact False.elim hq
    | cont => exact False.elim hq
theorem op_neX (F : FnOk X.prog X.w X.K X.mg X.base CX0 n f fd ["self", "other"] sp) (co : ClsObj X.K C f) (hb : Binds X.K fd ["self", "other"] []) (hr : Room (n + 1) X.A) : OpR X (compareOp .NotEq) (rNeX C sp) := by
  intro pins s σ H x y v u Q I rx ry h
  obtain ⟨a, b, dx, dy, fs, gs, rfl, rfl, ha, hb', hsp⟩ := h
  cases rx
  cases ry
  obtain ⟨mA, J, _⟩ := ins_get I.hok ha
  obtain ⟨od, J, _⟩ := J.look
  obtain ⟨mB, J', _⟩ := ins_get I.hok hb'
  obtain ⟨od', J', _⟩ := J'.look
  obtain ⟨nm, q, N, bs, hdct, sn, sub, ab, col, dd, k0, k1, k2, k3, k5, newId, oN, dN, es, ep, slN, h1, h2, h3, h4, h5⟩ := co.cls
  obtain ⟨of, h6, h7⟩ := co.fn
  have kin := I.kIn
  have own : s.heap.OwnEqNoNe a C f "object" [.type "object"] := ⟨_, of, nm, q, N, bs, hdct, sn, sub, ab, col, dd, k0, k1, k2, k3, k5, newId, fun x => nsFind es x, _, J.at_, J.cls, kin _ _ h1, ⟨_, es, ep, kin _ _ h2, rfl, h3, fun _ => rfl⟩, h4, kin _ _ h6, h7, PySem.F.mro_object, (by first | rfl | kernel_rfl), h5⟩
  have e0 := I.env0
  have r2 : Vals [V.ref a, V.ref b] [Value.ref a, Value.ref b] := .cons rfl (.cons rfl .nil)
  have hu : X.A.units + 1 < cLine := by have := hr.un; omega
  obtain ⟨hp, g, dr, tk, os⟩ := s
  refine compareOp_ne_ownEq PySem.F.cmp_object own J'.at_ J'.cls hu ?_
  refine wpAny_call (codeAny_mono (F.run X.A.in1 X.stack _ H ⟨[.ref a, .ref b], []⟩ [.ref a, .ref b] [.ref a, .ref b] _ E0 hr.in1 e0.in1 (by
    have := hb ⟨hp, g, dr, tk, os⟩ [.ref a, .ref b] I.kIn rfl
    simpa using this) r2 hsp) fun r s' hq => ?_)
  cases r with
  | error e => exact pass0 (X := X) pins σ H _ e s' I hq
  | ok fl =>
    cases fl with
    | ret w =>
      obtain ⟨z, H', I', rz, c, ez, q⟩ := I.after hq
      subst ez
      cases rz
      exact ⟨c, rfl, .bl (!c), H', I', rfl, q⟩
    | next => exact False.elim hq
    | brk => exact False.elim hq
    | cont => exact False.elim hq
end
end Ev

/-! Texts of whole numbers, of tuples of three and of lists of such tell their numbers. -/
namespace Ev
open PySem PySem.Spec PyProof.Rows L2 TL
def intL (i : Int) : List Nat := tl (PyData.int i).shown
theorem intL_nat (n : Nat) : intL (n : Int) = numL n := by
  unfold intL
  simp only [PyData.shown]
  exact tl_num n
theorem intL_neg (m : Nat) : intL (Int.negSucc m) = 45 :: numL (m + 1) := by
  unfold intL
  simp only [PyData.shown]
  have e : toString (Int.negSucc m) = "-" ++ Nat.repr (m + 1) := rfl
  have e2 : toString (((m + 1 : Nat)) : Int) = Nat.repr (m + 1) := rfl
  have h := tl_num (m + 1)
  rw [e2, tl_ofString] at h
  rw [e, tl_ofString, String.toList_append, List.map_append, h]
  rfl
theorem digits_code : ∀ (l m : List Nat) (c d : Nat) (r s : List Nat), NumText.AllDigits l → NumText.AllDigits m → (c < 48 ∨ 57 < c) → (d < 48 ∨ 57 < d) → l ++ c :: r = m ++ d :: s → l = m ∧ c = d ∧ r = s
  | [], [], _, _, _, _, _, _, _, _, h => by cases h; exact ⟨rfl, rfl, rfl⟩
  | [], y :: m, c, d, r, s, _, hm, hc, _, h => by
    injection h with h1 h2
    have := hm y List.mem_cons_self
    omega
  | x :: l, [], c, d, r, s, hl, _, _, hd, h => by
    injection h with h1 h2
    have := hl x List.mem_cons_self
    omega
  | x :: l, y :: m, c, d, r, s, hl, hm, hc, hd, h => by
    injection h with h1 h2
    obtain ⟨a, b, e⟩ := digits_code l m c d r s (fun z hz => hl z (List.mem_cons_of_mem _ hz)) (fun z hz => hm z (List.mem_cons_of_mem _ hz)) hc hd h2
    exact ⟨by rw [h1, a], b, e⟩
theorem num_head (n : Nat) : ∃ x l, numL n = x :: l ∧ 48 ≤ x ∧ x ≤ 57 := by
  cases h : numL n with
  | nil => exact absurd h (numL_ne n)
  | cons x l =>
    have := numL_digits n x (by rw [h]; exact List.mem_cons_self)
    exact ⟨x, l, rfl, this⟩
theorem int_code {i j : Int} {c d : Nat} {r s : List Nat} (hc : c < 48 ∨ 57 < c) (hd : d < 48 ∨ 57 < d) (h : intL i ++ c :: r = intL j ++ d :: s) : i = j ∧ c = d ∧ r = s := by
  cases i with
  | ofNat m =>
    rw [show intL (Int.ofNat m) = numL m from intL_nat m] at h
    cases j with
    | ofNat n =>
      rw [show intL (Int.ofNat n) = numL n from intL_nat n] at h
      obtain ⟨a, b, e⟩ := digits_code _ _ _ _ _ _ (numL_digits m) (numL_digits n) hc hd h
      exact ⟨by rw [numL_inj a], b, e⟩
    | negSucc n =>
      obtain ⟨x, l, e, h1, h2⟩ := num_head m
      rw [intL_neg, e] at h
      injection h with h3 h4
      omega
  | negSucc m =>
    rw [intL_neg] at h
    cases j with
    | ofNat n =>
      rw [show intL (Int.ofNat n) = numL n from intL_nat n] at h
      obtain ⟨x, l, e, h1, h2⟩ := num_head n
      rw [e] at h
      injection h with h3 h4
      omega
    | negSucc n =>
      rw [intL_neg] at h
      injection h with h1 h2
      obtain ⟨a, b, e⟩ := digits_code _ _ _ _ _ _ (numL_digits _) (numL_digits _) hc hd h2
      have := numL_inj a
      exact ⟨by rw [show m = n by omega], b, e⟩
/-- a tuple of three texts -/
theorem tl_tup3 (x y z : Str) : tl (PySem.tupleText [x, y, z]) = 40 :: (tl x ++ 44 :: 32 :: (tl y ++ 44 :: 32 :: (tl z ++ [41]))) := by
  have e : PySem.tupleText [x, y, z] = ("(" : Str) ++ Str.join ", " [x, y, z] ++ (")" : Str) := by
    unfold PySem.tupleText
    rw [if_neg (by simp)]
  have e1 : tl ("(" : Str) = [40] := by decide +kernel
  have e2 : tl (")" : Str) = [41] := by decide +kernel
  have e3 : tl (", " : Str) = [44, 32] := by decide +kernel
  rw [e, tl_append, tl_append, tl_join, e1, e2, e3]
  simp [joinL]
def lineL (r : Int × Int × Int) : List Nat := tl (PyData.tuple [.int r.1, .int r.2.1, .int r.2.2]).shown
theorem lineL_eq (r : Int × Int × Int) : lineL r = 40 :: (intL r.1 ++ 44 :: 32 :: (intL r.2.1 ++ 44 :: 32 :: (intL r.2.2 ++ [41]))) := by
  unfold lineL
  simp only [PyData.shown, PyData.shownAll]
  rw [tl_tup3]
  unfold intL
  simp only [PyData.shown]
theorem line_code {r s : Int × Int × Int} {u v : List Nat} (h : lineL r ++ u = lineL s ++ v) : r = s ∧ u = v := by
  rw [lineL_eq, lineL_eq] at h
  simp only [List.cons_append, List.append_assoc, List.nil_append] at h
  injection h with _ h1
  obtain ⟨a, _, h2⟩ := int_code (by decide) (by decide) h1
  injection h2 with _ h3
  obtain ⟨b, _, h4⟩ := int_code (by decide) (by decide) h3
  injection h4 with _ h5
  obtain ⟨c, _, h6⟩ := int_code (by decide) (by decide) h5
  exact ⟨Prod.ext a (Prod.ext b c), h6⟩
theorem tl_from : ∀ (ts : List Str) (k : Nat) (acc : Str), 0 < k → tl (textFrom k acc ts) = tl acc ++ ts.flatMap fun t => 44 :: 32 :: tl t
  | [], _, acc, _ => by simp [textFrom]
  | t :: ts, k, acc, hk => by
    have e3 : tl (", " : Str) = [44, 32] := by decide +kernel
    show tl (textFrom (k + 1) (acc ++ (if k > 0 then ", " else "" : String) ++ t) ts) = _
    rw [if_pos hk, tl_from ts (k + 1) _ (by omega), tl_append, tl_append, e3]
    simp
def linesL : List (Int × Int × Int) → List Nat
  | [] => [91, 93]
  | r :: rs => 91 :: (lineL r ++ ((rs.flatMap fun s => 44 :: 32 :: lineL s) ++ [93]))
theorem shownAll_map (rs : List (Int × Int × Int)) : PyData.shownAll (rs.map fun r => PyData.tuple [.int r.1, .int r.2.1, .int r.2.2]) = rs.map fun r => (PyData.tuple [.int r.1, .int r.2.1, .int r.2.2]).shown := by
  induction rs with
  | nil => simp only [List.map_nil, PyData.shownAll]
  | cons r rs ih => simp only [List.map_cons, PyData.shownAll, ih]
theorem linesL_eq (rs : List (Int × Int × Int)) : tl (PyData.list (rs.map fun r => PyData.tuple [.int r.1, .int r.2.1, .int r.2.2])).shown = linesL rs := by
  have e : (PyData.list (rs.map fun r => PyData.tuple [.int r.1, .int r.2.1, .int r.2.2])).shown = listText (rs.map fun r => (PyData.tuple [.int r.1, .int r.2.1, .int r.2.2]).shown) := by
    have : (PyData.list (rs.map fun r => PyData.tuple [.int r.1, .int r.2.1, .int r.2.2])).shown = listText (PyData.shownAll (rs.map fun r => PyData.tuple [.int r.1, .int r.2.1, .int r.2.2])) := by simp only [PyData.shown]
    rw [this, shownAll_map]
  rw [e]
  cases rs with
  | nil => exact (by decide +kernel : tl (listText []) = [91, 93])
  | cons r rs =>
    have e1 : tl ("[" : Str) = [91] := by decide +kernel
    have e2 : tl ("]" : Str) = [93] := by decide +kernel
    have e0 : tl ("" : Str) = [] := by decide +kernel
    show tl (textFrom 1 (("[" : Str) ++ (if 0 > 0 then ", " else "" : String) ++ (PyData.tuple [.int r.1, .int r.2.1, .int r.2.2]).shown) (rs.map fun r => (PyData.tuple [.int r.1, .int r.2.1, .int r.2.2]).shown) ++ ("]" : Str)) = _
    rw [tl_append, tl_from _ _ _ (by decide), tl_append, tl_append, e1, e2, if_neg (by decide), e0]
    unfold linesL lineL
    simp [List.flatMap_map]
theorem rest_code : ∀ (rs ss : List (Int × Int × Int)) (u v : List Nat), (rs.flatMap fun s => 44 :: 32 :: lineL s) ++ 93 :: u = (ss.flatMap fun s => 44 :: 32 :: lineL s) ++ 93 :: v → rs = ss ∧ u = v
  | [], [], u, v, h => by
    injection h with _ h
    exact ⟨rfl, h⟩
  | [], s :: ss, u, v, h => by
    rw [List.flatMap_cons] at h
    injection h with h1 _
    exact absurd h1 (by decide)
  | r :: rs, [], u, v, h => by
    rw [List.flatMap_cons] at h
    injection h with h1 _
    exact absurd h1 (by decide)
  | r :: rs, s :: ss, u, v, h => by
    rw [List.flatMap_cons, List.flatMap_cons] at h
    simp only [List.cons_append, List.append_assoc] at h
    injection h with _ h1
    injection h1 with _ h2
    obtain ⟨e1, h3⟩ := line_code h2
    obtain ⟨e2, h4⟩ := rest_code rs ss u v h3
    exact ⟨by rw [e1, e2], h4⟩
theorem linesL_nil : linesL [] = [91, 93] := rfl
theorem linesL_cons (r : Int × Int × Int) (rs : List (Int × Int × Int)) : linesL (r :: rs) = 91 :: (lineL r ++ ((rs.flatMap fun s => 44 :: 32 :: lineL s) ++ [93])) := rfl
theorem lines_code {rs ss : List (Int × Int × Int)} {u v : List Nat} (h : linesL rs ++ u = linesL ss ++ v) : rs = ss ∧ u = v := by
  cases rs with
  | nil =>
    cases ss with
    | nil =>
      rw [linesL_nil] at h
      injection h with _ h1
      injection h1 with _ h2
      exact ⟨rfl, h2⟩
    | cons s ss =>
      rw [linesL_nil, linesL_cons, lineL_eq] at h
      injection h with _ h1
      injection h1 with h2 _
      exact absurd h2 (by decide)
  | cons r rs =>
    cases ss with
    | nil =>
      rw [linesL_nil, linesL_cons, lineL_eq] at h
      injection h with _ h1
      injection h1 with h2 _
      exact absurd h2 (by decide)
    | cons s ss =>
      rw [linesL_cons, linesL_cons] at h
      simp only [List.cons_append, List.append_assoc, List.nil_append] at h
      injection h with _ h1
      obtain ⟨e1, h2⟩ := line_code h1
      obtain ⟨e2, h3⟩ := rest_code rs ss _ _ h2
      exact ⟨by rw [e1, e2], h3⟩
/-- the tuple of a low, a high and a list of rules -/
def kindD (lo hi : Int) (rs : List (Int × Int × Int)) : PyData := .tuple [.int lo, .int hi, .list (rs.map fun r => PyData.tuple [.int r.1, .int r.2.1, .int r.2.2])]
theorem kind_inj {lo hi lo' hi' : Int} {rs rs' : List (Int × Int × Int)} (h : (kindD lo hi rs).shown = (kindD lo' hi' rs').shown) : lo = lo' ∧ hi = hi' ∧ rs = rs' := by
  have e : ∀ lo hi rs, tl (kindD lo hi rs).shown = 40 :: (intL lo ++ 44 :: 32 :: (intL hi ++ 44 :: 32 :: (linesL rs ++ [41]))) := fun lo hi rs => by
    have : (kindD lo hi rs).shown = PySem.tupleText [(PyData.int lo).shown, (PyData.int hi).shown, (PyData.list (rs.map fun r => PyData.tuple [.int r.1, .int r.2.1, .int r.2.2])).shown] := by
      unfold kindD
      simp only [PyData.shown, PyData.shownAll]
    rw [this, tl_tup3, linesL_eq]
    rfl
  have h' := congrArg tl h
  rw [e, e] at h'
  injection h' with _ h1
  obtain ⟨a, _, h2⟩ := int_code (by decide) (by decide) h1
  injection h2 with _ h3
  obtain ⟨b, _, h4⟩ := int_code (by decide) (by decide) h3
  injection h4 with _ h5
  obtain ⟨c, _⟩ := lines_code h5
  exact ⟨a, b, c⟩
end Ev

/-! Bounds, their strictest shares, conflicts. -/
namespace Ev
abbrev R3 := Int × Int × Int
def lowStep (b : Int × Int) (r : R3) : Int × Int := if r.2.2 * b.2 < b.1 * r.1 then (r.2.2, r.1) else b
def highStep (b : Int × Int) (r : R3) : Int × Int := if r.2.1 * b.2 > b.1 * r.1 then (r.2.1, r.1) else b
def Wide1 (B : List R3) : Prop := ∀ r ∈ B, 1 ≤ r.1
theorem mul_chain {a b c d e f : Int} (hb : 0 < b) (hd : 0 ≤ d) (hf : 0 ≤ f) (h1 : a * b ≤ c * d) (h2 : c * f ≤ e * b) : a * f ≤ e * d := by
  have x1 := Int.mul_le_mul_of_nonneg_right h1 hf
  have x2 := Int.mul_le_mul_of_nonneg_right h2 hd
  have e1 : a * f * b ≤ e * d * b := by
    have q1 : a * f * b = a * b * f := by rw [Int.mul_assoc, Int.mul_comm f b, ← Int.mul_assoc]
    have q2 : e * d * b = e * b * d := by rw [Int.mul_assoc, Int.mul_comm d b, ← Int.mul_assoc]
    have q3 : c * d * f = c * f * d := by rw [Int.mul_assoc, Int.mul_comm d f, ← Int.mul_assoc]
    omega
  exact Int.le_of_mul_le_mul_right e1 hb
/-- (m, w) is the most and the width of one of these, and none is stricter -/
def IsLow (B : List R3) (b : Int × Int) : Prop := (∃ s ∈ B, b = (s.2.2, s.1)) ∧ ∀ s ∈ B, b.1 * s.1 ≤ s.2.2 * b.2
def IsHigh (B : List R3) (b : Int × Int) : Prop := (∃ s ∈ B, b = (s.2.1, s.1)) ∧ ∀ s ∈ B, s.2.1 * b.2 ≤ b.1 * s.1
theorem low_fold (A : List R3) : ∀ (done : List R3) (b : Int × Int), Wide1 (done ++ A) → IsLow done b → IsLow (done ++ A) (A.foldl lowStep b) := by
  induction A with
  | nil => intro done b _ h; rw [List.append_nil]; exact h
  | cons r A ih =>
    intro done b hw h
    have e : done ++ r :: A = (done ++ [r]) ++ A := by simp
    rw [List.foldl_cons, e]
    refine ih _ _ (by rw [← e]; exact hw) ?_
    obtain ⟨⟨s, hs, hb⟩, hall⟩ := h
    have rw1 : 1 ≤ r.1 := hw r (by simp)
    have sw1 : 1 ≤ s.1 := hw s (by simp [hs])
    unfold lowStep
    by_cases c : r.2.2 * b.2 < b.1 * r.1
    · rw [if_pos c]
      refine ⟨⟨r, by simp, rfl⟩, fun t ht => ?_⟩
      rcases List.mem_append.mp ht with ht | ht
      · have tw := hw t (by simp [ht])
        have := hall t ht
        have hb2 : 0 < b.2 := by rw [hb]; show 0 < s.1; omega
        exact mul_chain hb2 (by show (0 : Int) ≤ r.1; omega) (by omega) (Int.le_of_lt c) this
      · rw [List.mem_singleton.mp ht]; exact Int.le_refl _
    · rw [if_neg c]
      refine ⟨⟨s, by simp [hs], hb⟩, fun t ht => ?_⟩
      rcases List.mem_append.mp ht with ht | ht
      · exact hall t ht
      · rw [List.mem_singleton.mp ht]; omega
theorem high_fold (A : List R3) : ∀ (done : List R3) (b : Int × Int), Wide1 (done ++ A) → IsHigh done b → IsHigh (done ++ A) (A.foldl highStep b) := by
  induction A with
  | nil => intro done b _ h; rw [List.append_nil]; exact h
  | cons r A ih =>
    intro done b hw h
    have e : done ++ r :: A = (done ++ [r]) ++ A := by simp
    rw [List.foldl_cons, e]
    refine ih _ _ (by rw [← e]; exact hw) ?_
    obtain ⟨⟨s, hs, hb⟩, hall⟩ := h
    have rw1 : 1 ≤ r.1 := hw r (by simp)
    have sw1 : 1 ≤ s.1 := hw s (by simp [hs])
    unfold highStep
    by_cases c : r.2.1 * b.2 > b.1 * r.1
    · rw [if_pos c]
      refine ⟨⟨r, by simp, rfl⟩, fun t ht => ?_⟩
      rcases List.mem_append.mp ht with ht | ht
      · have tw := hw t (by simp [ht])
        have := hall t ht
        have hb2 : 0 < b.2 := by rw [hb]; show 0 < s.1; omega
        exact mul_chain hb2 (by omega) (by show (0 : Int) ≤ r.1; omega) this (Int.le_of_lt c)
      · rw [List.mem_singleton.mp ht]; exact Int.le_refl _
    · rw [if_neg c]
      refine ⟨⟨s, by simp [hs], hb⟩, fun t ht => ?_⟩
      rcases List.mem_append.mp ht with ht | ht
      · exact hall t ht
      · rw [List.mem_singleton.mp ht]; omega
/-- what lowest_most, highest_least hand out of bounds that begin with r -/
def lowM (r : R3) (B : List R3) : Int × Int := (r :: B).foldl lowStep (r.2.2, r.1)
def highM (r : R3) (B : List R3) : Int × Int := (r :: B).foldl highStep (r.2.1, r.1)
theorem lowM_eq (r : R3) (B : List R3) : lowM r B = B.foldl lowStep (r.2.2, r.1) := by
  unfold lowM
  rw [List.foldl_cons]
  unfold lowStep
  rw [if_neg (by exact Int.lt_irrefl _)]
theorem highM_eq (r : R3) (B : List R3) : highM r B = B.foldl highStep (r.2.1, r.1) := by
  unfold highM
  rw [List.foldl_cons]
  unfold highStep
  rw [if_neg (by exact Int.lt_irrefl _)]
theorem low_is (r : R3) (B : List R3) (hw : Wide1 (r :: B)) : IsLow (r :: B) (lowM r B) := by
  rw [lowM_eq]
  exact low_fold B [r] _ hw ⟨⟨r, by simp, rfl⟩, fun s hs => by rw [List.mem_singleton.mp hs]; exact Int.le_refl _⟩
theorem high_is (r : R3) (B : List R3) (hw : Wide1 (r :: B)) : IsHigh (r :: B) (highM r B) := by
  rw [highM_eq]
  exact high_fold B [r] _ hw ⟨⟨r, by simp, rfl⟩, fun s hs => by rw [List.mem_singleton.mp hs]; exact Int.le_refl _⟩
/-! conflicts -/
def NoConf (B : List R3) : Prop := ∀ r ∈ B, ∀ s ∈ B, r.2.1 * s.1 ≤ s.2.2 * r.1
def FirstConf (B : List R3) (i j : Nat) : Prop := ∃ r s, B[i]? = some r ∧ B[j]? = some s ∧ s.2.2 * r.1 < r.2.1 * s.1 ∧ (∀ (i' : Nat) r', i' < i → B[i']? = some r' → ∀ s' ∈ B, r'.2.1 * s'.1 ≤ s'.2.2 * r'.1) ∧
  ∀ (j' : Nat) s', j' < j → B[j']? = some s' → r.2.1 * s'.1 ≤ s'.2.2 * r.1
theorem FirstConf.eq {B : List R3} {i j i' j' : Nat} (h : FirstConf B i j) (g : FirstConf B i' j') : i = i' ∧ j = j' := by
  obtain ⟨r, s, h1, h2, h3, h4, h5⟩ := h
  obtain ⟨r', s', g1, g2, g3, g4, g5⟩ := g
  have ei : i = i' := by
    rcases Nat.lt_trichotomy i i' with z | z | z
    · have := g4 i r z h1 s (List.mem_of_getElem? h2); omega
    · exact z
    · have := h4 i' r' z g1 s' (List.mem_of_getElem? g2); omega
  subst ei
  rw [h1] at g1; cases g1
  refine ⟨rfl, ?_⟩
  rcases Nat.lt_trichotomy j j' with z | z | z
  · have := g5 j s z h2; omega
  · exact z
  · have := h5 j' s' z g2; omega
theorem FirstConf.not {B : List R3} {i j : Nat} (h : FirstConf B i j) : ¬ NoConf B := fun n => by
  obtain ⟨r, s, h1, h2, h3, _⟩ := h
  have := n r (List.mem_of_getElem? h1) s (List.mem_of_getElem? h2)
  omega
/-- a least that passes the strictest most passes all -/
theorem low_pass {B : List R3} {b : Int × Int} (hw : Wide1 B) (h : IsLow B b) {r : R3} (hr : 1 ≤ r.1) (c : r.2.1 * b.2 ≤ b.1 * r.1) : ∀ s ∈ B, r.2.1 * s.1 ≤ s.2.2 * r.1 := fun s hs => by
  obtain ⟨⟨t, ht, hb⟩, hall⟩ := h
  have tw := hw t ht
  have sw := hw s hs
  have hb2 : 0 < b.2 := by rw [hb]; show 0 < t.1; omega
  exact mul_chain hb2 (by omega) (by omega) c (hall s hs)
theorem low_stop {B : List R3} {b : Int × Int} (h : IsLow B b) {r : R3} (c : b.1 * r.1 < r.2.1 * b.2) : ∃ s ∈ B, s.2.2 * r.1 < r.2.1 * s.1 := by
  obtain ⟨⟨t, ht, hb⟩, hall⟩ := h
  refine ⟨t, ht, ?_⟩
  rw [hb] at c
  exact c
end Ev

/-! The strictest further rules. -/
namespace Ev
theorem high_pass {B : List R3} {b : Int × Int} (hw : Wide1 B) (h : IsHigh B b) {s : R3} (hs : 1 ≤ s.1) (c : b.1 * s.1 ≤ s.2.2 * b.2) : ∀ r ∈ B, r.2.1 * s.1 ≤ s.2.2 * r.1 := fun r hr => by
  obtain ⟨⟨t, ht, hb⟩, hall⟩ := h
  have tw := hw t ht
  have rw' := hw r hr
  have hb2 : 0 < b.2 := by rw [hb]; show 0 < t.1; omega
  exact mul_chain hb2 (by omega) (by omega) (hall r hr) c
theorem high_stop {B : List R3} {b : Int × Int} (h : IsHigh B b) {s : R3} (c : s.2.2 * b.2 < b.1 * s.1) : ∃ r ∈ B, s.2.2 * r.1 < r.2.1 * s.1 := by
  obtain ⟨⟨t, ht, hb⟩, hall⟩ := h
  refine ⟨t, ht, ?_⟩
  rw [hb] at c
  exact c
theorem noconf_add {B : List R3} {o : R3} (nc : NoConf B) (h1 : ∀ s ∈ B, o.2.1 * s.1 ≤ s.2.2 * o.1) (h2 : ∀ r ∈ B, r.2.1 * o.1 ≤ o.2.2 * r.1) (h3 : o.2.1 * o.1 ≤ o.2.2 * o.1) : NoConf (B ++ [o]) := fun r hr s hs => by
  rcases List.mem_append.mp hr with hr | hr <;> rcases List.mem_append.mp hs with hs | hs
  · exact nc r hr s hs
  · rw [List.mem_singleton.mp hs]; exact h2 r hr
  · rw [List.mem_singleton.mp hr]; exact h1 s hs
  · rw [List.mem_singleton.mp hr, List.mem_singleton.mp hs]; exact h3
theorem noconf_of_share {B : List R3} {o u : Int} (hu : 0 < u) (hw : Wide1 B) (h : ∀ r ∈ B, r.2.1 * u ≤ r.1 * o ∧ r.1 * o ≤ r.2.2 * u) : NoConf B := fun r hr s hs => by
  have a := (h r hr).1
  have b := (h s hs).2
  rw [Int.mul_comm] at b
  rw [Int.mul_comm r.1] at a
  exact mul_chain hu (by have := hw r hr; omega) (by have := hw s hs; omega) a b
structure Strict (lo hi n : Int) (rs : List R3) (d0 d1 : Int) : Prop where
  a1 : NoConf ((1, lo, hi) :: rs ++ [(n, d0, n * hi)])
  a2 : ∀ x, ¬ NoConf ((1, lo, hi) :: rs ++ [(n, d0 + 1, x)])
  a3 : NoConf ((1, lo, hi) :: rs ++ [(n, n * lo, d1)])
  a4 : ∀ x, ¬ NoConf ((1, lo, hi) :: rs ++ [(n, x, d1 - 1)])
  b1 : n * lo ≤ d0
  b2 : d0 ≤ n * hi
  b3 : n * lo ≤ d1
  b4 : d1 ≤ n * hi
theorem strict_is {lo hi n : Int} {rs : List R3} (hw : Wide1 ((1, lo, hi) :: rs)) (nc : NoConf ((1, lo, hi) :: rs)) (hn : 1 ≤ n) :
    Strict lo hi n rs (n * (lowM (1, lo, hi) rs).1 / (lowM (1, lo, hi) rs).2) (0 - (0 - n * (highM (1, lo, hi) rs).1) / (highM (1, lo, hi) rs).2) := by
  have isl := low_is (1, lo, hi) rs hw
  have ish := high_is (1, lo, hi) rs hw
  have p1 : 0 < (lowM (1, lo, hi) rs).2 := by
    obtain ⟨⟨z, hz, e⟩, _⟩ := isl
    rw [e]; have := hw z hz; show 0 < z.1; omega
  have p2 : 0 < (highM (1, lo, hi) rs).2 := by
    obtain ⟨⟨z, hz, e⟩, _⟩ := ish
    rw [e]; have := hw z hz; show 0 < z.1; omega
  generalize lowM (1, lo, hi) rs = lm at isl p1 ⊢
  generalize highM (1, lo, hi) rs = hm at ish p2 ⊢
  obtain ⟨m, w⟩ := lm
  obtain ⟨l, v⟩ := hm
  dsimp only at p1 p2 ⊢
  have f1 : n * m / w * w ≤ n * m := Int.ediv_mul_le _ (by omega)
  have f2 : n * m < (n * m / w + 1) * w := Int.lt_ediv_add_one_mul_self _ p1
  have g1 : (0 - n * l) / v * v ≤ 0 - n * l := Int.ediv_mul_le _ (by omega)
  have g2 : 0 - n * l < ((0 - n * l) / v + 1) * v := Int.lt_ediv_add_one_mul_self _ p2
  generalize n * m / w = d0 at f1 f2 ⊢
  generalize hd : (0 - n * l) / v = q at g1 g2 ⊢
  have e0 : (1, lo, hi) ∈ (1, lo, hi) :: rs := List.mem_cons_self
  -- the new least d0 passes all mosts
  have c1 : ∀ s ∈ (1, lo, hi) :: rs, d0 * s.1 ≤ s.2.2 * n := low_pass hw isl (r := (n, d0, n * hi)) hn (by show d0 * w ≤ m * n; rw [Int.mul_comm m n]; exact f1)
  have c2 : ∃ s ∈ (1, lo, hi) :: rs, s.2.2 * n < (d0 + 1) * s.1 := low_stop isl (r := (n, d0 + 1, 0)) (by show m * n < (d0 + 1) * w; rw [Int.mul_comm m n]; exact f2)
  have h1 : l * n ≤ (0 - q) * v := by rw [Int.sub_mul, Int.mul_comm l n]; omega
  have h2 : (0 - q - 1) * v < l * n := by
    rw [Int.add_mul] at g2
    rw [Int.sub_mul, Int.sub_mul, Int.mul_comm l n]; omega
  have c3 : ∀ r ∈ (1, lo, hi) :: rs, r.2.1 * n ≤ (0 - q) * r.1 := high_pass hw ish (s := (n, n * lo, 0 - q)) hn h1
  have c4 : ∃ r ∈ (1, lo, hi) :: rs, (0 - q - 1) * r.1 < r.2.1 * n := high_stop ish (s := (n, 0, 0 - q - 1)) h2
  have x1 := c1 _ e0
  have x3 := c3 _ e0
  dsimp only at x1 x3
  have lohi : lo ≤ hi := by have := nc _ e0 _ e0; dsimp only at this; omega
  have up : ∀ r ∈ (1, lo, hi) :: rs, r.2.1 * n ≤ n * hi * r.1 := fun r hr => by
    have := nc r hr _ e0
    dsimp only at this
    have := Int.mul_le_mul_of_nonneg_left this (show 0 ≤ n by omega)
    rw [Int.mul_one] at this
    rw [Int.mul_comm r.2.1 n, Int.mul_assoc]; exact this
  have dn : ∀ s ∈ (1, lo, hi) :: rs, n * lo * s.1 ≤ s.2.2 * n := fun s hs => by
    have := nc _ e0 s hs
    dsimp only at this
    have := Int.mul_le_mul_of_nonneg_left this (show 0 ≤ n by omega)
    rw [Int.mul_one] at this
    rw [Int.mul_comm s.2.2 n, Int.mul_assoc]; exact this
  have nlh : n * lo ≤ n * hi := Int.mul_le_mul_of_nonneg_left lohi (by omega)
  have y1 : n * lo ≤ d0 := by
    obtain ⟨s, hs, z⟩ := c2
    have sw := hw s hs
    have := dn s hs
    have : n * lo * s.1 < (d0 + 1) * s.1 := Int.lt_of_le_of_lt this z
    have := Int.lt_of_mul_lt_mul_right this (by omega)
    omega
  have y2 : d0 ≤ n * hi := by rw [Int.mul_comm n hi]; omega
  have y3 : n * lo ≤ 0 - q := by rw [Int.mul_comm n lo]; omega
  have y4 : 0 - q ≤ n * hi := by
    obtain ⟨r, hr, z⟩ := c4
    have rw' := hw r hr
    have := up r hr
    have : (0 - q - 1) * r.1 < n * hi * r.1 := Int.lt_of_lt_of_le z this
    have := Int.lt_of_mul_lt_mul_right this (by omega)
    omega
  refine ⟨noconf_add nc c1 up (Int.mul_le_mul_of_nonneg_right y2 (by show 0 ≤ n; omega)), fun x k => ?_, noconf_add nc dn c3 (Int.mul_le_mul_of_nonneg_right y3 (by show 0 ≤ n; omega)), fun x k => ?_, y1, y2, y3, y4⟩
  · obtain ⟨s, hs, z⟩ := c2
    have := k (n, d0 + 1, x) (by simp) s (List.mem_append_left _ hs)
    dsimp only at this
    omega
  · obtain ⟨r, hr, z⟩ := c4
    have := k r (List.mem_append_left _ hr) (n, x, 0 - q - 1) (by simp)
    dsimp only at this
    omega
end Ev

/-! Lists of days that keep bounds, and go on both ways. -/
namespace Ev
def winsum (xs : List Int) (s w : Nat) : Int := ((xs.drop s).take w).sum
/-- all bounds hold within a list -/
def LetP (B : List R3) (xs : List Int) : Prop := ∀ r ∈ B, ∀ s : Nat, s + r.1.toNat ≤ xs.length → r.2.1 ≤ winsum xs s r.1.toNat ∧ winsum xs s r.1.toNat ≤ r.2.2
theorem winsum_left {xs ys : List Int} {s w : Nat} (h : s + w ≤ xs.length) : winsum (xs ++ ys) s w = winsum xs s w := by
  unfold winsum
  rw [List.drop_append_of_le_length (by omega), List.take_append_of_le_length (by rw [List.length_drop]; omega)]
theorem winsum_drop {xs : List Int} {k s w : Nat} : winsum (xs.drop k) s w = winsum xs (k + s) w := by
  unfold winsum
  rw [List.drop_drop]
theorem LetP.step {B : List R3} {xs : List Int} {d : Int} {m : Nat} (hm : m ≤ xs.length) (hB : ∀ r ∈ B, r.1.toNat ≤ m + 1) (h : LetP B xs) (g : LetP B (xs.drop (xs.length - m) ++ [d])) : LetP B (xs ++ [d]) := fun r hr s hs => by
  rw [List.length_append, List.length_singleton] at hs
  have hw := hB r hr
  by_cases c : s + r.1.toNat ≤ xs.length
  · rw [winsum_left c]
    exact h r hr s c
  · have e : xs ++ [d] = (xs.take (xs.length - m)) ++ (xs.drop (xs.length - m) ++ [d]) := by rw [← List.append_assoc, List.take_append_drop]
    have l : (xs.take (xs.length - m)).length = xs.length - m := by rw [List.length_take]; omega
    have e2 : (xs ++ [d]).drop (xs.length - m) = xs.drop (xs.length - m) ++ [d] := by
      rw [List.drop_append_of_le_length (by omega)]
    have := g r hr (s - (xs.length - m)) (by rw [List.length_append, List.length_drop, List.length_singleton]; omega)
    rw [← e2, winsum_drop] at this
    have e3 : xs.length - m + (s - (xs.length - m)) = s := by omega
    rw [e3] at this
    exact this
theorem block_ge {xs : List Int} {w : Nat} {f : Int} (h : ∀ s, s + w ≤ xs.length → f ≤ winsum xs s w) : ∀ k : Nat, k * w ≤ xs.length → (k : Int) * f ≤ (xs.take (k * w)).sum
  | 0, _ => by simp
  | k + 1, hk => by
    have e : (k + 1) * w = k * w + w := Nat.succ_mul k w
    rw [e] at hk ⊢
    have a := block_ge h k (by omega)
    have b := h (k * w) hk
    rw [List.take_add, List.sum_append]
    unfold winsum at b
    have : ((k + 1 : Nat) : Int) * f = k * f + f := by rw [Int.natCast_add, Int.add_mul]; simp
    omega
theorem block_le {xs : List Int} {w : Nat} {f : Int} (h : ∀ s, s + w ≤ xs.length → winsum xs s w ≤ f) : ∀ k : Nat, k * w ≤ xs.length → (xs.take (k * w)).sum ≤ (k : Int) * f
  | 0, _ => by simp
  | k + 1, hk => by
    have e : (k + 1) * w = k * w + w := Nat.succ_mul k w
    rw [e] at hk ⊢
    have a := block_le h k (by omega)
    have b := h (k * w) hk
    rw [List.take_add, List.sum_append]
    unfold winsum at b
    have : ((k + 1 : Nat) : Int) * f = k * f + f := by rw [Int.natCast_add, Int.add_mul]; simp
    omega
/-- lists that go on: then there is no conflict -/
theorem noconf_of_walk {B : List R3} {F : List (List Int)} {m : Nat} (hw : Wide1 B) (hB : ∀ r ∈ B, r.1.toNat ≤ m + 1) (hl : ∀ x ∈ F, x.length = m) (hL : ∀ x ∈ F, LetP B x) (hg : ∀ x ∈ F, ∃ d : Int, x.drop 1 ++ [d] ∈ F ∧ LetP B (x ++ [d])) {x0 : List Int} (h0 : x0 ∈ F) (hm : 1 ≤ m) : NoConf B := by
  have rows : ∀ N : Nat, ∃ xs : List Int, xs.length = m + N ∧ LetP B xs ∧ xs.drop (xs.length - m) ∈ F := by
    intro N
    induction N with
    | zero => exact ⟨x0, by rw [hl x0 h0]; rfl, hL x0 h0, by rw [hl x0 h0, Nat.sub_self]; exact h0⟩
    | succ N ih =>
      obtain ⟨xs, e, l, f⟩ := ih
      obtain ⟨d, f', l'⟩ := hg _ f
      refine ⟨xs ++ [d], by rw [List.length_append, e, List.length_singleton]; omega, l.step (m := m) (by omega) hB l', ?_⟩
      rw [List.length_append, List.length_singleton]
      have e1 : xs.length + 1 - m = (xs.length - m) + 1 := by omega
      rw [e1, List.drop_append_of_le_length (by omega)]
      rw [List.drop_drop] at f'
      exact f'
  intro r hr s hs
  have rw1 := hw r hr
  have sw1 := hw s hs
  obtain ⟨xs, e, l, _⟩ := rows (r.1.toNat * s.1.toNat)
  have g1 := block_ge (xs := xs) (w := r.1.toNat) (f := r.2.1) (fun q hq => (l r hr q hq).1) s.1.toNat (by rw [Nat.mul_comm]; omega)
  have g2 := block_le (xs := xs) (w := s.1.toNat) (f := s.2.2) (fun q hq => (l s hs q hq).2) r.1.toNat (by omega)
  rw [Nat.mul_comm] at g1
  have t1 : (s.1.toNat : Int) = s.1 := Int.toNat_of_nonneg (by omega)
  have t2 : (r.1.toNat : Int) = r.1 := Int.toNat_of_nonneg (by omega)
  rw [t1] at g1
  rw [t2] at g2
  rw [Int.mul_comm r.2.1, Int.mul_comm s.2.2]
  omega
/-! the even row by a share M / W -/
def evP (M W : Int) (n : Int) : Int := n * M / W
def evD (M W : Int) (n : Int) : Int := evP M W (n + 1) - evP M W n
def evW (M W : Int) (k : Int) : Nat → List Int
  | 0 => []
  | n + 1 => evD M W k :: evW M W (k + 1) n
theorem evW_len {M W k : Int} : ∀ n : Nat, (evW M W k n).length = n := by
  intro n
  induction n generalizing k with
  | zero => rfl
  | succ n ih => rw [evW, List.length_cons, ih]
theorem evW_sum {M W k : Int} : ∀ n : Nat, (evW M W k n).sum = evP M W (k + n) - evP M W k := by
  intro n
  induction n generalizing k with
  | zero => simp [evW]
  | succ n ih =>
    rw [evW, List.sum_cons, ih]
    unfold evD
    have : k + 1 + (n : Int) = k + ((n + 1 : Nat) : Int) := by omega
    rw [this]
    omega
theorem evW_drop {M W k : Int} : ∀ (n s : Nat), s ≤ n → (evW M W k n).drop s = evW M W (k + s) (n - s) := by
  intro n
  induction n generalizing k with
  | zero => intro s hs; obtain rfl : s = 0 := by omega
            simp [evW]
  | succ n ih =>
    intro s hs
    cases s with
    | zero => simp
    | succ s =>
      rw [evW, List.drop_succ_cons, ih s (by omega)]
      have e1 : k + 1 + (s : Int) = k + ((s + 1 : Nat) : Int) := by omega
      have e2 : n + 1 - (s + 1) = n - s := by omega
      rw [e1, e2]
theorem evW_take {M W k : Int} : ∀ (n s : Nat), s ≤ n → (evW M W k n).take s = evW M W k s := by
  intro n
  induction n generalizing k with
  | zero => intro s hs; obtain rfl : s = 0 := by omega
            simp [evW]
  | succ n ih =>
    intro s hs
    cases s with
    | zero => simp [evW]
    | succ s => rw [evW, List.take_succ_cons, ih s (by omega), evW]
theorem evW_snoc {M W k : Int} : ∀ n : Nat, evW M W k n ++ [evD M W (k + n)] = evW M W k (n + 1) := by
  intro n
  induction n generalizing k with
  | zero => simp [evW]
  | succ n ih =>
    rw [evW, List.cons_append]
    have : k + ((n + 1 : Nat) : Int) = (k + 1) + n := by omega
    rw [this, ih]
    rfl
theorem evP_step {M W k f : Int} {w : Nat} (hW : 0 < W) (h : f * W ≤ M * w) : f ≤ evP M W (k + w) - evP M W k := by
  unfold evP
  have a : k * M / W * W ≤ k * M := Int.ediv_mul_le _ (by omega)
  have : (k * M / W + f) ≤ (k + w) * M / W := by
    refine Int.le_ediv_of_mul_le hW ?_
    rw [Int.add_mul, Int.add_mul, Int.mul_comm (w : Int) M]
    omega
  omega
theorem evP_stepU {M W k f : Int} {w : Nat} (hW : 0 < W) (h : M * w ≤ f * W) : evP M W (k + w) - evP M W k ≤ f := by
  unfold evP
  have a : k * M < (k * M / W + 1) * W := Int.lt_ediv_add_one_mul_self _ hW
  have : (k + w) * M / W < k * M / W + 1 + f := by
    refine Int.ediv_lt_of_lt_mul hW ?_
    rw [Int.add_mul, Int.add_mul _ f, Int.mul_comm (w : Int) M]
    omega
  omega
theorem evW_let {B : List R3} {M W k : Int} {n : Nat} (hw : Wide1 B) (hW : 0 < W) (h : ∀ r ∈ B, r.2.1 * W ≤ M * r.1 ∧ M * r.1 ≤ r.2.2 * W) : LetP B (evW M W k n) := fun r hr s hs => by
  have r1 := hw r hr
  rw [evW_len] at hs
  unfold winsum
  rw [evW_drop n s (by omega), evW_take _ _ (by omega), evW_sum]
  have t : (r.1.toNat : Int) = r.1 := Int.toNat_of_nonneg (by omega)
  obtain ⟨a, b⟩ := h r hr
  exact ⟨evP_step hW (by rw [t]; exact a), evP_stepU hW (by rw [t]; exact b)⟩
/-- a share that all bounds let through, where there is no conflict -/
theorem share_of {lo hi : Int} {rs : List R3} (hw : Wide1 ((1, lo, hi) :: rs)) (nc : NoConf ((1, lo, hi) :: rs)) : ∃ M W : Int, 0 < W ∧ ∀ r ∈ (1, lo, hi) :: rs, r.2.1 * W ≤ M * r.1 ∧ M * r.1 ≤ r.2.2 * W := by
  have isl := low_is (1, lo, hi) rs hw
  obtain ⟨⟨t, ht, e⟩, hall⟩ := isl
  refine ⟨_, _, ?_, fun r hr => ⟨?_, hall r hr⟩⟩
  · rw [e]; have := hw t ht; show 0 < t.1; omega
  · rw [e]; exact nc r hr t ht
/-- goes on both ways within F -/
def Goes (B : List R3) (F : List (List Int)) (x : List Int) : Prop := (∃ d : Int, x.drop 1 ++ [d] ∈ F ∧ LetP B (x ++ [d])) ∧ ∃ d : Int, d :: x.dropLast ∈ F ∧ LetP B (d :: x)
/-- all windows of a row by this share are in F -/
def Ev0 (M W : Int) (m : Nat) (F : List (List Int)) : Prop := ∀ k : Int, evW M W k m ∈ F
theorem Ev0.goes {B : List R3} {M W : Int} {m : Nat} {F : List (List Int)} (hw : Wide1 B) (hW : 0 < W) (h : ∀ r ∈ B, r.2.1 * W ≤ M * r.1 ∧ M * r.1 ≤ r.2.2 * W) (hm : 1 ≤ m) (g : Ev0 M W m F) (k : Int) : Goes B F (evW M W k m) := by
  obtain ⟨n, rfl⟩ : ∃ n, m = n + 1 := ⟨m - 1, by omega⟩
  refine ⟨⟨evD M W (k + 1 + n), ?_, ?_⟩, evD M W (k - 1), ?_, ?_⟩
  · rw [evW, List.drop_succ_cons, List.drop_zero, evW_snoc]
    exact g (k + 1)
  · have : k + 1 + (n : Int) = k + ((n + 1 : Nat) : Int) := by omega
    rw [this, evW_snoc]
    exact evW_let hw hW h
  · have e : (evW M W k (n + 1)).dropLast = evW M W k n := by rw [← evW_snoc, List.dropLast_concat]
    rw [e]
    have := g (k - 1)
    rw [evW] at this
    have e2 : k - 1 + 1 = k := by omega
    rw [e2] at this
    exact this
  · have : evD M W (k - 1) :: evW M W k (n + 1) = evW M W (k - 1) (n + 2) := by
      show _ = evD M W (k - 1) :: evW M W (k - 1 + 1) (n + 1)
      have e2 : k - 1 + 1 = k := by omega
      rw [e2]
    rw [this]
    exact evW_let hw hW h
theorem goes_day {B : List R3} {lo hi d : Int} {x : List Int} (hB : (1, lo, hi) ∈ B) (h : LetP B (x ++ [d])) : lo ≤ d ∧ d ≤ hi := by
  have := h _ hB x.length (by rw [List.length_append]; exact Nat.le_refl _)
  unfold winsum at this
  rw [List.drop_left] at this
  simpa using this
theorem goes_day' {B : List R3} {lo hi d : Int} {x : List Int} (hB : (1, lo, hi) ∈ B) (h : LetP B (d :: x)) : lo ≤ d ∧ d ≤ hi := by
  have := h _ hB 0 (by rw [List.length_cons]; show 0 + 1 ≤ x.length + 1; omega)
  unfold winsum at this
  simpa using this
end Ev

/-! A list as a heap: the two sifts keep its order. -/
namespace Ev
def HeapI (f : Nat → Int) (n : Nat) : Prop := ∀ i, 0 < i → i < n → f ((i - 1) / 2) ≤ f i
def UpI (f : Nat → Int) (n pos : Nat) : Prop := (∀ i, 0 < i → i < n → i ≠ pos → f ((i - 1) / 2) ≤ f i) ∧ (∀ i, 0 < i → i < n → (i - 1) / 2 = pos → 0 < pos → f ((pos - 1) / 2) ≤ f i)
def DnI (f : Nat → Int) (n pos : Nat) : Prop := (∀ i, 0 < i → i < n → i ≠ pos → (i - 1) / 2 ≠ pos → f ((i - 1) / 2) ≤ f i) ∧ (∀ i, 0 < i → i < n → (i - 1) / 2 = pos → 0 < pos → f ((pos - 1) / 2) ≤ f i)
def sw (f : Nat → Int) (i j : Nat) : Nat → Int := fun k => if k = j then f i else if k = i then f j else f k
theorem HeapI.least {f : Nat → Int} {n : Nat} (h : HeapI f n) : ∀ i, i < n → f 0 ≤ f i := by
  intro i
  induction i using Nat.strongRecOn with
  | ind i ih =>
    intro hi
    by_cases c : i = 0
    · subst c
      exact Int.le_refl _
    · exact Int.le_trans (ih ((i - 1) / 2) (by omega) (by omega)) (h i (by omega) hi)
theorem UpI.heap {f : Nat → Int} {n pos : Nat} (h : UpI f n pos) (c : pos = 0 ∨ ¬ f pos < f ((pos - 1) / 2)) : HeapI f n := fun i h0 hi => by
  by_cases e : i = pos
  · subst e
    rcases c with c | c
    · omega
    · omega
  · exact h.1 i h0 hi e
theorem UpI.step {f : Nat → Int} {n pos : Nat} (h : UpI f n pos) (c : 0 < pos) (hp : pos < n) (lt : f pos < f ((pos - 1) / 2)) : UpI (sw f pos ((pos - 1) / 2)) n ((pos - 1) / 2) := by
  obtain ⟨h1, h2⟩ := h
  generalize hq : (pos - 1) / 2 = q at *
  have qp : q < pos := by omega
  refine ⟨fun i i0 hi ne => ?_, fun i i0 hi e q0 => ?_⟩
  · unfold sw
    have a := h1 i i0 hi
    have b := h2 i i0 hi
    have d : (i - 1) / 2 ≠ i := by omega
    by_cases e1 : (i - 1) / 2 = q
    · rw [if_pos e1, if_neg ne]
      by_cases e2 : i = pos
      · rw [if_pos e2]
        omega
      · rw [if_neg e2]
        have := a e2
        rw [e1] at this
        omega
    · rw [if_neg e1]
      by_cases e3 : (i - 1) / 2 = pos
      · rw [if_pos e3, if_neg ne, if_neg (by omega)]
        exact b e3 c
      · rw [if_neg e3, if_neg ne, if_neg (by intro z; subst z; exact e1 hq)]
        exact a (by intro z; subst z; exact e1 hq)
  · unfold sw
    have nq : (q - 1) / 2 ≠ q := by omega
    have np : (q - 1) / 2 ≠ pos := by omega
    rw [if_neg nq, if_neg np]
    have u := h1 q q0 (by omega) (by omega)
    rw [if_neg (by omega : i ≠ q)]
    by_cases e2 : i = pos
    · rw [if_pos e2]
      exact u
    · rw [if_neg e2]
      have := h1 i i0 hi e2
      rw [e] at this
      omega
theorem DnI.up {f : Nat → Int} {n pos : Nat} (h : DnI f n pos) (hp : ¬ pos < n / 2) : UpI f n pos :=
  ⟨fun i h0 hi ne => h.1 i h0 hi ne (by omega), fun i h0 hi e c => h.2 i h0 hi e c⟩
theorem DnI.step {f : Nat → Int} {n pos ch : Nat} (h : DnI f n pos) (hc : ch < n) (c0 : 0 < ch) (ec : (ch - 1) / 2 = pos) (least : ∀ i, 0 < i → i < n → (i - 1) / 2 = pos → f ch ≤ f i) : DnI (sw f ch pos) n ch := by
  obtain ⟨h1, h2⟩ := h
  have pc : pos < ch := by omega
  refine ⟨fun i i0 hi ne nq => ?_, fun i i0 hi e q0 => ?_⟩
  · unfold sw
    rw [if_neg (show i ≠ ch from ne) , if_neg (show (i - 1) / 2 ≠ ch from nq)]
    by_cases e1 : i = pos
    · rw [if_neg (by omega), if_pos e1]
      subst e1
      exact h2 ch c0 hc ec (by omega)
    · rw [if_neg e1]
      by_cases e2 : (i - 1) / 2 = pos
      · rw [if_pos e2]
        exact least i i0 hi e2
      · rw [if_neg e2]
        exact h1 i i0 hi e1 e2
  · unfold sw
    rw [if_pos ec, if_neg (by omega), if_neg (by omega)]
    have := h1 i i0 hi (by omega) (by omega)
    rw [e] at this
    exact this
end Ev

/-! heapq's heappush and heappop of a list of ints: what they leave of its items (nothing of their order). -/
namespace Ev
open PySem PySem.Spec PyProof.Rows L2
def numOf : Value → Int
  | .int i _ => i
  | _ => 0
/-- the numbers of a list, by place -/
def Fn (l : List Value) : Nat → Int := fun k => numOf (l.getD k .none)
theorem Fn_of {l : List Value} {k : Nat} {v : Value} (h : l[k]? = some v) : Fn l k = numOf v := by
  unfold Fn
  rw [List.getD_eq_getElem?_getD, h]
  rfl
theorem sw_comm {f : Nat → Int} {i j : Nat} : sw f i j = sw f j i := by
  funext k
  unfold sw
  by_cases a : k = j
  · by_cases b : k = i
    · rw [if_pos a, if_pos b, ← a, ← b]
    · rw [if_pos a, if_neg b, if_pos a]
  · by_cases b : k = i
    · rw [if_neg a, if_pos b, if_pos b]
    · rw [if_neg a, if_neg b, if_neg b, if_neg a]
theorem Fn_swap {l : List Value} {i j : Nat} {x y : Value} (hi : l[i]? = some x) (hj : l[j]? = some y) : Fn ((l.set i y).set j x) = sw (Fn l) i j := by
  funext k
  unfold sw
  have li := (List.getElem?_eq_some_iff.mp hi).1
  have lj := (List.getElem?_eq_some_iff.mp hj).1
  by_cases a : k = j
  · subst a
    rw [if_pos rfl, Fn_of hi]
    exact Fn_of (by rw [List.getElem?_set_self (by rw [List.length_set]; exact lj)])
  · rw [if_neg a]
    by_cases b : k = i
    · subst b
      rw [if_pos rfl, Fn_of hj]
      exact Fn_of (by rw [List.getElem?_set_ne (by omega), List.getElem?_set_self li])
    · rw [if_neg b]
      unfold Fn
      rw [List.getD_eq_getElem?_getD, List.getD_eq_getElem?_getD, List.getElem?_set_ne (by omega), List.getElem?_set_ne (by omega)]
/-- a list as a heap -/
abbrev Hd (l : List Value) : Prop := HeapI (Fn l) l.length
namespace HQ
abbrev lo (xs : Array Value) (n : Nat) : Obj := { cls := .type "list", data := .seq xs n }
abbrev gi (a : Addr) : Sem (Array Value) := do
  let some xs ← seqItems? (.ref a) | unsupported "internal:_heapq"
  return xs
abbrev ga (xs : Array Value) (i : Nat) : Sem Value :=
  match xs[i]? with
  | some v => pure v
  | none => unsupported "internal:_heapq.index"
section
variable {prog : Program} {w : World} {A : Around} {E : Value → Shared → Prop} {s : Shared} {a : Addr} {xs : Array Value} {n : Nat}
theorem items {Q : Array Value → Shared → Prop} (h : s.heap.get? a = some (lo xs n)) (q : Q xs s) : wpAny (model prog w) A (gi a) Q E s := by
  refine wpAny_bind (wpAny_seqItems h rfl ?_)
  exact wpAny_pure q
theorem at_ {i : Nat} {v : Value} {Q : Value → Shared → Prop} (h : xs[i]? = some v) (q : Q v s) : wpAny (model prog w) A (ga xs i) Q E s := by
  unfold ga
  rw [h]
  exact wpAny_pure q
theorem less {i j : Int} {t u : Tok} {Q : Bool → Shared → Prop} (h : s.heap.get? a = some (lo xs n)) (q : Q (decide (i < j)) s) :
    wpAny (model prog w) A (do
      let less ← holding [.int i t, .int j u] (do truthOfDropped (← richCompare .Lt (.int i t) (.int j u)))
      if (← (gi a)).size != xs.size then rule "_heapq.size-changed"; raiseError "RuntimeError" "list changed size during iteration"
      return less) Q E s := by
  refine wpAny_bind (wpAny_holding (wpAny_bind (wpAny_lt_int ?_)))
  refine wpAny_truthy_bool ?_
  refine wpAny_bind (items h ?_)
  simp only [bne_self_eq_false, Bool.false_eq_true, if_false]
  exact wpAny_bind (wpAny_pure (wpAny_pure q))
theorem swap {i j : Nat} {x y : Value} {Q : Unit → Shared → Prop} (h : s.heap.get? a = some (lo xs n)) (hz : xs.size ≤ sizeLine) (hi : xs[i]? = some x) (hj : xs[j]? = some y)
    (q : Q () { s with heap := s.heap.update a (Obj.mapSeq fun xs => (xs.setIfInBounds i y).setIfInBounds j x) }) :
    wpAny (model prog w) A (do
      let xs ← (gi a)
      let x ← (ga xs i)
      let y ← (ga xs j)
      updateSeq a fun xs => (xs.setIfInBounds i y).setIfInBounds j x) Q E s := by
  refine wpAny_bind (items h ?_)
  refine wpAny_bind (at_ hi ?_)
  refine wpAny_bind (at_ hj ?_)
  exact wpAny_updateSeq h rfl q hz (by rw [Array.size_setIfInBounds, Array.size_setIfInBounds]; omega)
end
/-- only the list at a changed: its items another way about -/
def Aft (a : Addr) (s s' : Shared) (its its' : List Value) : Prop := ∃ h' t' n, s' = { s with heap := h', toks := t' } ∧ (∀ b u, b ≠ a → s.heap.get? b = some u → h'.get? b = some u) ∧ h'.get? a = some (lo its'.toArray n) ∧ its'.Perm its
theorem Aft.trans {a : Addr} {s s1 s2 : Shared} {i j k : List Value} (h : Aft a s s1 i j) (g : Aft a s1 s2 j k) : Aft a s s2 i k := by
  obtain ⟨h1, t1, n1, rfl, k1, g1, p1⟩ := h
  obtain ⟨h2, t2, n2, rfl, k2, g2, p2⟩ := g
  exact ⟨h2, t2, n2, rfl, fun b u nb e => k2 b u nb (k1 b u nb e), g2, p2.trans p1⟩
theorem Aft.refl {a : Addr} {s : Shared} {i : List Value} {n : Nat} (h : s.heap.get? a = some (lo i.toArray n)) : Aft a s s i i := ⟨s.heap, s.toks, n, rfl, fun _ _ _ e => e, h, .refl _⟩
def Ints (l : List Value) : Prop := ∀ v ∈ l, ∃ i t, v = .int i t
theorem cons_set : ∀ {l : List Value} {j : Nat} {y z : Value}, l[j]? = some y → (y :: l.set j z).Perm (z :: l)
  | [], _, _, _, h => by cases h
  | _ :: t, 0, _, _, h => by
    cases h
    exact .swap _ _ _
  | b :: t, j + 1, y, z, h => (List.Perm.swap b y (t.set j z)).trans (((cons_set (l := t) (j := j) h).cons b).trans (.swap z b t))
theorem perm_swap {l : List Value} {i j : Nat} {x y : Value} (hi : l[i]? = some x) (hj : l[j]? = some y) : ((l.set i y).set j x).Perm l := by
  have h : ∀ (l : List Value) (i j : Nat) (x y : Value), i < j → l[i]? = some x → l[j]? = some y → ((l.set i y).set j x).Perm l := by
    intro l
    induction l with
    | nil => intro i j x y _ h _; cases h
    | cons z l ih =>
      intro i j x y hij hi hj
      cases j with
      | zero => exact absurd hij (Nat.not_lt_zero _)
      | succ j =>
        cases i with
        | zero =>
          cases hi
          show (y :: l.set j z).Perm (z :: l)
          have hj' : l[j]? = some y := hj
          exact cons_set hj'
        | succ i => exact (ih i j x y (by omega) hi hj).cons _
  rcases Nat.lt_trichotomy i j with c | c | c
  · exact h l i j x y c hi hj
  · subst c
    rw [hi] at hj
    cases hj
    rw [List.set_set]
    obtain ⟨hl, rfl⟩ := List.getElem?_eq_some_iff.mp hi
    rw [List.set_getElem_self]
  · rw [List.set_comm _ _ (by omega)]
    exact h l j i y x c hj hi
theorem entry_sift : entryFor table "_heapq.heapify.sift" = some Builtin.«_heapq.heapify.sift» := entryFor_of_tree (by kernel_rfl)
theorem plain_sift : plainId "_heapq.heapify.sift" = true := by decide +kernel
theorem entry_push : entryFor table "_heapq.heappush" = some Builtin.«_heapq.heappush» := entryFor_of_tree (by kernel_rfl)
theorem plain_push : plainId "_heapq.heappush" = true := by decide +kernel
theorem entry_pop : entryFor table "_heapq.heappop" = some Builtin.«_heapq.heappop» := entryFor_of_tree (by kernel_rfl)
theorem plain_pop : plainId "_heapq.heappop" = true := by decide +kernel
theorem args_push (a b : Value) : argsOk "_heapq.heappush" ⟨[a, b], []⟩ := by unfold argsOk; kernel_rfl
theorem args_pop (a : Value) : argsOk "_heapq.heappop" ⟨[a], []⟩ := by unfold argsOk; kernel_rfl
theorem kind_push : builtinKind "_heapq.heappush" = none := by kernel_rfl
theorem kind_pop : builtinKind "_heapq.heappop" = none := by kernel_rfl
theorem Aft.perm {a : Addr} {s s' : Shared} {i j : List Value} (h : Aft a s s' i j) : j.Perm i := by
  obtain ⟨_, _, _, _, _, _, p⟩ := h
  exact p
theorem ints_perm {l m : List Value} (h : Ints l) (p : m.Perm l) : Ints m := fun v hv => h v (p.mem_iff.mp hv)
theorem swapped {a : Addr} {s : Shared} {its : List Value} {n i j : Nat} {x y : Value} (h : s.heap.get? a = some (lo its.toArray n)) (hi : its[i]? = some x) (hj : its[j]? = some y) :
    ∃ m, ({ s with heap := s.heap.update a (Obj.mapSeq fun xs => (xs.setIfInBounds i y).setIfInBounds j x) } : Shared).heap.get? a = some (lo ((its.set i y).set j x).toArray m) ∧
      Aft a s { s with heap := s.heap.update a (Obj.mapSeq fun xs => (xs.setIfInBounds i y).setIfInBounds j x) } its ((its.set i y).set j x) := by
  have q := PySem.IsL.update h fun xs => (xs.setIfInBounds i y).setIfInBounds j x
  simp only [List.setIfInBounds_toArray] at q
  exact ⟨_, q, _, _, _, rfl, fun b u nb e => (Heap.get?_update_other s.heap _ (Ne.symm nb)).trans e, q, perm_swap hi hj⟩
section
variable {prog : Program} {w : World} {A : Around} {R : Result → Shared → Prop} {a : Addr} {res : Value}
theorem up : ∀ (pos : Nat) (s : Shared) (its : List Value) (n : Nat), s.heap.get? a = some (lo its.toArray n) → its.length ≤ sizeLine → Ints its → pos < its.length → UpI (Fn its) its.length pos → (∀ s' its', Aft a s s' its its' → Hd its' → R (.ok (.ret res)) s') →
    codeAny (model prog w) A (.builtin "_heapq.heapify.sift" ⟨[.ref a, .bool false, .bool false, rawInt pos, rawInt 0, res, rawInt (-1)], []⟩) R s := by
  intro pos
  induction pos using Nat.strongRecOn with
  | ind pos ih =>
    intro s its n h hz hI hp hU k
    refine codeAny_builtin entry_sift ?_
    rw [Around.under_plainId plain_sift _]
    unfold Builtin.«_heapq.heapify.sift»
    dsimp only [rawInt]
    refine wpAny_bind (items h ?_)
    simp only [Bool.false_eq_true, if_false, Int.toNat_natCast, Int.toNat_zero]
    have last : Hd its → wpAny (model prog w) A.in1 (if (-1 : Int) < 0 then ret res else again (.builtin "_heapq.heapify.sift" ⟨[.ref a, .bool false, .bool true, rawInt (-1 : Int).toNat, rawInt (-1 : Int).toNat, res, rawInt (-1 - 1)], []⟩)) (fun fin s' => match fin with | .done f => R (.ok f) s' | .again c' => c'.quiet = true ∧ codeAny (model prog w) A c' R s') (fun e s' => R (.error e) s') s := fun hh => by
      rw [if_pos (by decide)]
      exact wpAny_pure (k s its (Aft.refl h) hh)
    by_cases c : pos > 0
    · rw [if_pos c]
      have hq : (pos - 1) / 2 < its.length := by omega
      obtain ⟨i, t, ei⟩ := hI _ (List.getElem_mem hp)
      obtain ⟨j, u, ej⟩ := hI _ (List.getElem_mem hq)
      have gi' : its.toArray[pos]? = some (.int i t) := by rw [List.getElem?_toArray, List.getElem?_eq_getElem hp, ei]
      have gj' : its.toArray[(pos - 1) / 2]? = some (.int j u) := by rw [List.getElem?_toArray, List.getElem?_eq_getElem hq, ej]
      refine wpAny_bind (at_ gi' ?_)
      refine wpAny_bind (at_ gj' ?_)
      refine wpAny_bind (less h ?_)
      by_cases lt : i < j
      · rw [if_pos (by simpa using lt)]
        refine wpAny_bind (swap h (by rw [List.size_toArray]; exact hz) gj' gi' ?_)
        refine wpAny_pure ⟨plainId_quiet plain_sift _, ?_⟩
        obtain ⟨m, hm, af⟩ := swapped h (List.getElem?_toArray ▸ gj') (List.getElem?_toArray ▸ gi')
        refine ih _ (by omega) _ _ m hm (by rw [List.length_set, List.length_set]; exact hz) (ints_perm hI af.perm) (by rw [List.length_set, List.length_set]; exact hq) ?_ (fun s' its' af' hh => k s' its' (af.trans af') hh)
        rw [Fn_swap (List.getElem?_toArray ▸ gj') (List.getElem?_toArray ▸ gi'), List.length_set, List.length_set, sw_comm]
        exact hU.step c hp (by rw [Fn_of (List.getElem?_toArray ▸ gi'), Fn_of (List.getElem?_toArray ▸ gj')]; exact lt)
      · rw [if_neg (by simpa using lt)]
        exact last (hU.heap (.inr (by rw [Fn_of (List.getElem?_toArray ▸ gi'), Fn_of (List.getElem?_toArray ▸ gj')]; exact lt)))
    · rw [if_neg c]
      exact last (hU.heap (.inl (by omega)))
theorem down : ∀ (d pos : Nat) (s : Shared) (its : List Value) (n : Nat), its.length - pos = d → s.heap.get? a = some (lo its.toArray n) → its.length ≤ sizeLine → Ints its → pos < its.length → DnI (Fn its) its.length pos → (∀ s' its', Aft a s s' its its' → Hd its' → R (.ok (.ret res)) s') →
    codeAny (model prog w) A (.builtin "_heapq.heapify.sift" ⟨[.ref a, .bool false, .bool true, rawInt pos, rawInt 0, res, rawInt (-1)], []⟩) R s := by
  intro d
  induction d using Nat.strongRecOn with
  | ind d ih =>
    intro pos s its n hd h hz hI hp hD k
    refine codeAny_builtin entry_sift ?_
    rw [Around.under_plainId plain_sift _]
    unfold Builtin.«_heapq.heapify.sift»
    dsimp only [rawInt]
    refine wpAny_bind (items h ?_)
    simp only [if_true, Bool.false_eq_true, if_false, Int.toNat_natCast, Int.toNat_zero]
    by_cases c : pos < its.length / 2
    · rw [if_pos (by rw [List.size_toArray]; exact c)]
      have go : ∀ (ch : Nat) (f : Unit → Sem Fin), f () = again (.builtin "_heapq.heapify.sift" ⟨[.ref a, .bool false, .bool true, rawInt ch, rawInt 0, res, rawInt (-1)], []⟩) → pos < ch → ch < its.length → DnI (sw (Fn its) ch pos) its.length ch → wpAny (model prog w) A.in1 ((do
          let xs ← (gi a)
          let x ← (ga xs ch)
          let y ← (ga xs pos)
          updateSeq a fun xs => (xs.setIfInBounds ch y).setIfInBounds pos x) >>= f) (fun fin s' => match fin with | .done f => R (.ok f) s' | .again c' => c'.quiet = true ∧ codeAny (model prog w) A c' R s') (fun e s' => R (.error e) s') s := fun ch f ef h1 h2 h3 => by
        have ei : its[ch]? = some its[ch] := List.getElem?_eq_getElem h2
        have ej : its[pos]? = some its[pos] := List.getElem?_eq_getElem hp
        refine wpAny_bind (swap h (by rw [List.size_toArray]; exact hz) (by rw [List.getElem?_toArray]; exact ei) (by rw [List.getElem?_toArray]; exact ej) ?_)
        rw [ef]
        refine wpAny_pure ⟨plainId_quiet plain_sift _, ?_⟩
        obtain ⟨m, hm, af⟩ := swapped h ei ej
        refine ih (its.length - ch) (by omega) ch _ _ m (by rw [List.length_set, List.length_set]) hm (by rw [List.length_set, List.length_set]; exact hz) (ints_perm hI af.perm) (by rw [List.length_set, List.length_set]; exact h2) (by rw [Fn_swap ei ej, List.length_set, List.length_set]; exact h3) (fun s' its' af' hh => k s' its' (af.trans af') hh)
      by_cases c2 : 2 * pos + 1 + 1 < its.length
      · rw [if_pos (by rw [List.size_toArray]; exact c2)]
        have hl : 2 * pos + 1 < its.length := by omega
        obtain ⟨i, t, ei⟩ := hI _ (List.getElem_mem hl)
        obtain ⟨j, u, ej⟩ := hI _ (List.getElem_mem c2)
        have fl : Fn its (2 * pos + 1) = i := by rw [Fn_of (List.getElem?_eq_getElem hl), ei]; rfl
        have fr : Fn its (2 * pos + 1 + 1) = j := by rw [Fn_of (List.getElem?_eq_getElem c2), ej]; rfl
        refine wpAny_bind (at_ (v := .int i t) (by rw [List.getElem?_toArray, List.getElem?_eq_getElem hl, ei]) ?_)
        refine wpAny_bind (at_ (v := .int j u) (by rw [List.getElem?_toArray, List.getElem?_eq_getElem c2, ej]) ?_)
        refine wpAny_bind (less h ?_)
        by_cases lt : i < j
        · rw [if_neg (by simpa using lt)]
          refine go _ _ rfl (by omega) hl (hD.step hl (by omega) (by omega) fun q q0 hq eq => ?_)
          have : q = 2 * pos + 1 ∨ q = 2 * pos + 1 + 1 := by omega
          rcases this with rfl | rfl
          · exact Int.le_refl _
          · rw [fl, fr]
            omega
        · rw [if_pos (by simpa using lt)]
          refine go _ _ rfl (by omega) c2 (hD.step c2 (by omega) (by omega) fun q q0 hq eq => ?_)
          have : q = 2 * pos + 1 ∨ q = 2 * pos + 1 + 1 := by omega
          rcases this with rfl | rfl
          · rw [fl, fr]
            omega
          · exact Int.le_refl _
      · rw [if_neg (by rw [List.size_toArray]; exact c2)]
        refine go _ _ rfl (by omega) (by omega) (hD.step (by omega) (by omega) (by omega) fun q q0 hq eq => ?_)
        have : q = 2 * pos + 1 := by omega
        rw [this]
        exact Int.le_refl _
    · rw [if_neg (by rw [List.size_toArray]; exact c)]
      exact wpAny_pure ⟨plainId_quiet plain_sift _, up pos s its n h hz hI hp (hD.up c) k⟩
end
section
variable {prog : Program} {w : World} {A : Around} {E : Value → Shared → Prop} {s : Shared} {a : Addr}
theorem call_fn {id : String} {B : Builtin} {args : List Value} {Q : Value → Shared → Prop} (kind : builtinKind id = none) (plain : plainId id = true) (entry : entryFor table id = some B) (ok : argsOk id ⟨args, []⟩)
    (h : wpAny (model prog w) A.in1 (B ⟨args, []⟩) (fun fin s' => match fin with | .done f => wants Q E (.ok f) s' | .again c' => c'.quiet = true ∧ codeAny (model prog w) A c' (wants Q E) s') (fun e s' => wants Q E (.error e) s') s) :
    wpAny (model prog w) A (call (.builtin id) args) Q E s := by
  refine wpAny_call (codeAny_call_builtin plain entry ?_)
  simp only [checkBuiltinCall, kind]
  cases hsig : Manifest.signature? id with
  | none => exact wpAny_pure h
  | some sig =>
    simp only [argsOk, hsig] at ok
    have h2 : Bind.checkArgs id sig ⟨args, []⟩ = pure () := ok
    show wpAny _ _ (Bind.checkArgs id sig ⟨args, []⟩) _ _ s
    rw [h2]
    exact wpAny_pure h
theorem lst_sub : isSubtype (.type "list") (.type "list") = pure true := by rw [isSubtype_type]; kernel_rfl
theorem push {its : List Value} {n : Nat} {v : Value} {Q : Value → Shared → Prop} (h : s.heap.get? a = some (lo its.toArray n)) (hz : its.length < sizeLine) (hI : Ints its) (hv : Ints [v]) (hH : Hd its)
    (k : ∀ s' its', Aft a s s' (its ++ [v]) its' → Hd its' → Q .none s') : wpAny (model prog w) A (call (.builtin "_heapq.heappush") [.ref a, v]) Q E s := by
  refine call_fn kind_push plain_push entry_push (args_push _ _) ?_
  unfold Builtin.«_heapq.heappush»
  refine wpAny_bind ?_
  refine wpAny_bind (wpAny_of_eq (a := ()) rfl ?_)
  refine wpAny_bind (wpAny_of_eq (a := ()) rfl ?_)
  refine wpAny_bind ?_
  refine wpAny_bind (wpAny_isInstance (T := "list") ⟨_, h, rfl⟩ lst_sub ?_)
  dsimp only
  rw [if_pos rfl]
  refine wpAny_pure (wpAny_pure ?_)
  dsimp only
  refine wpAny_bind (wpAny_updateSeq h rfl ?_ (by rw [List.size_toArray]; omega) (by rw [Array.size_push, List.size_toArray]; omega))
  have q := PySem.IsL.update h fun xs => xs.push v
  rw [List.push_toArray] at q
  refine wpAny_bind (items q ?_)
  refine wpAny_pure ⟨plainId_quiet plain_sift _, ?_⟩
  refine up _ _ (its ++ [v]) _ q (by rw [List.length_append, List.length_singleton]; omega) (fun x hx => (List.mem_append.mp hx).elim (hI x) (hv x)) ?_ ?_ (fun s' its' af hh => k s' its' ?_ hh)
  · rw [List.size_toArray, List.length_append, List.length_singleton]
    omega
  · rw [List.size_toArray, List.length_append, List.length_singleton, show its.length + 1 - 1 = its.length by omega]
    refine ⟨fun i i0 hi ne => ?_, fun i i0 hi e _ => ?_⟩
    · have e : ∀ k, k < its.length → Fn (its ++ [v]) k = Fn its k := fun k hk => by
        unfold Fn
        rw [List.getD_eq_getElem?_getD, List.getD_eq_getElem?_getD, List.getElem?_append_left hk]
      rw [e _ (by omega), e _ (by omega)]
      exact hH i i0 (by omega)
    · omega
  · obtain ⟨h2, t2, n2, rfl, k2, g2, p2⟩ := af
    exact ⟨h2, t2, n2, rfl, fun b u nb e => k2 b u nb ((Heap.get?_update_other s.heap _ (Ne.symm nb)).trans e), g2, p2⟩
theorem pop {its : List Value} {n : Nat} {Q : Value → Shared → Prop} (h : s.heap.get? a = some (lo its.toArray n)) (hz : its.length ≤ sizeLine) (hI : Ints its) (hne : its ≠ []) (hH : Hd its)
    (k : ∀ s' x its', (x :: its').Perm its → Aft a s s' its' its' → Hd its' → numOf x = Fn its 0 → Q x s') : wpAny (model prog w) A (call (.builtin "_heapq.heappop") [.ref a]) Q E s := by
  refine call_fn kind_pop plain_pop entry_pop (args_pop _) ?_
  unfold Builtin.«_heapq.heappop»
  obtain ⟨fst, mid, rfl⟩ : ∃ f m, its = f :: m := by
    cases its with
    | nil => exact absurd rfl hne
    | cons f m => exact ⟨f, m, rfl⟩
  refine wpAny_bind ?_
  refine wpAny_bind ?_
  refine wpAny_bind (wpAny_of_eq (a := ()) rfl ?_)
  refine wpAny_pure ?_
  refine wpAny_bind ?_
  refine wpAny_bind (wpAny_isInstance (T := "list") ⟨_, h, rfl⟩ lst_sub ?_)
  dsimp only
  rw [if_pos rfl]
  refine wpAny_pure (wpAny_pure ?_)
  dsimp only
  refine wpAny_bind (items h ?_)
  rcases List.eq_nil_or_concat mid with rfl | ⟨ini, l, rfl⟩
  · rw [show ([fst].toArray.back?) = some fst from rfl]
    dsimp only
    refine wpAny_bind (wpAny_updateSeq h rfl ?_ (by rw [List.size_toArray]; exact hz) (by rw [Array.size_pop, List.size_toArray]; omega))
    rw [if_pos (by rfl)]
    have q := PySem.IsL.update h fun xs => xs.pop
    refine wpAny_bind (wpAny_pure (wpAny_pure ?_))
    exact k _ fst [] (.refl _) ⟨_, _, _, rfl, fun b u nb e => (Heap.get?_update_other s.heap _ (Ne.symm nb)).trans e, q, .refl _⟩ (fun i i0 hi => absurd hi (Nat.not_lt_zero _)) rfl
  · rw [List.concat_eq_append] at *
    rw [show ((fst :: (ini ++ [l])).toArray.back?) = some l by rw [List.back?_toArray, ← List.cons_append, List.getLast?_concat]]
    dsimp only
    have hlen : (fst :: (ini ++ [l])).length = ini.length + 2 := by simp
    refine wpAny_bind (wpAny_updateSeq h rfl ?_ (by rw [List.size_toArray]; exact hz) (by rw [Array.size_pop, List.size_toArray]; omega))
    have q := PySem.IsL.update h fun xs => xs.pop
    rw [show (fst :: (ini ++ [l])).toArray.pop = (fst :: ini).toArray by rw [List.pop_toArray, ← List.cons_append, List.dropLast_concat]] at q
    rw [if_neg (by rw [List.size_toArray, hlen]; simp)]
    refine wpAny_bind (at_ (xs := (fst :: (ini ++ [l])).toArray) (i := 0) (v := fst) (by simp) ?_)
    refine wpAny_bind (wpAny_updateSeq q rfl ?_ (by rw [List.size_toArray, List.length_cons]; omega) (by rw [Array.size_setIfInBounds, List.size_toArray, List.length_cons]; omega))
    have q2 := PySem.IsL.update q fun xs => xs.setIfInBounds 0 l
    rw [show (fst :: ini).toArray.setIfInBounds 0 l = (l :: ini).toArray by simp] at q2
    refine wpAny_pure ⟨plainId_quiet plain_sift _, ?_⟩
    have p : (l :: ini).Perm (ini ++ [l]) := (List.perm_append_singleton l ini).symm
    refine down _ 0 _ (l :: ini) _ rfl q2 (by rw [List.length_cons]; omega) (ints_perm (fun v hv => hI v (List.mem_cons_of_mem _ hv)) p) (by simp) ?_ (fun s' its' af hh => ?_)
    · have e : ∀ k, 0 < k → k < (l :: ini).length → Fn (l :: ini) k = Fn (fst :: (ini ++ [l])) k := fun k k0 hk => by
        unfold Fn
        obtain ⟨m, rfl⟩ : ∃ m, k = m + 1 := ⟨k - 1, by omega⟩
        rw [List.getD_cons_succ, List.getD_cons_succ, List.getD_eq_getElem?_getD, List.getD_eq_getElem?_getD, List.getElem?_append_left (by rw [List.length_cons] at hk; omega)]
      refine ⟨fun i i0 hi ne np => ?_, fun i i0 hi e0 c => absurd c (Nat.lt_irrefl _)⟩
      rw [e _ (by omega) (by omega), e _ i0 hi]
      exact hH i i0 (by rw [hlen]; rw [List.length_cons] at hi; omega)
    refine k s' fst its' ((af.perm.trans p).cons fst) ?_ hh rfl
    obtain ⟨h2, t2, n2, rfl, k2, g2, p2⟩ := af
    exact ⟨h2, t2, n2, rfl, fun b u nb e => k2 b u nb ((Heap.get?_update_other _ _ (Ne.symm nb)).trans ((Heap.get?_update_other s.heap _ (Ne.symm nb)).trans e)), g2, .refl _⟩
end
end HQ
theorem vals_ints {xs : List Int} {its : List Value} (h : Vals (xs.map V.int) its) : HQ.Ints its := by
  induction xs generalizing its with
  | nil =>
    cases h
    intro v hv
    cases hv
  | cons x xs ih =>
    cases h with
    | cons h1 h2 =>
      intro v hv
      rcases List.mem_cons.mp hv with rfl | hv
      · obtain ⟨t, rfl⟩ := h1
        exact ⟨_, _, rfl⟩
      · exact ih h2 v hv
theorem vals_num {xs : List Int} {its : List Value} (h : Vals (xs.map V.int) its) : its.map numOf = xs := by
  induction xs generalizing its with
  | nil =>
    cases h
    rfl
  | cons x xs ih =>
    cases h with
    | cons h1 h2 =>
      obtain ⟨t, rfl⟩ := h1
      rw [List.map_cons, ih h2]
      rfl
theorem ints_vals : ∀ {its : List Value}, HQ.Ints its → Vals ((its.map numOf).map V.int) its
  | [], _ => .nil
  | v :: its, h => by
    obtain ⟨i, t, rfl⟩ := h v List.mem_cons_self
    exact .cons ⟨t, rfl⟩ (ints_vals fun w hw => h w (List.mem_cons_of_mem _ hw))
theorem vals_perm {xs : List Int} {its its' : List Value} (h : Vals (xs.map V.int) its) (p : its'.Perm its) : ∃ ys : List Int, ys.Perm xs ∧ Vals (ys.map V.int) its' :=
  ⟨its'.map numOf, vals_num h ▸ p.map numOf, ints_vals (HQ.ints_perm (vals_ints h) p)⟩
/-- a list of numbers as a heap -/
def HdI (xs : List Int) : Prop := HeapI (fun k => xs.getD k 0) xs.length
theorem fn_num {its : List Value} : Fn its = fun k => (its.map numOf).getD k 0 := by
  funext k
  unfold Fn
  rw [List.getD_eq_getElem?_getD, List.getD_eq_getElem?_getD, List.getElem?_map]
  cases its[k]? <;> rfl
theorem hd_iff {xs : List Int} {its : List Value} (h : Vals (xs.map V.int) its) : Hd its ↔ HdI xs := by
  unfold HdI
  rw [← vals_num h, show Hd its = HeapI (Fn its) its.length from rfl, fn_num, List.length_map]
theorem HdI.nil : HdI [] := fun i i0 hi => absurd hi (Nat.not_lt_zero _)
theorem HdI.one (x : Int) : HdI [x] := fun i i0 hi => absurd hi (by show ¬ i < 1; omega)
/-- heappush(l, x), l a list of ints that is a heap -/
def rPush : List V → Hp → VK → Prop := fun vs H Q => ∃ (l : Addr) (xs : List Int) (x : Int), vs = [.ref l, .int x] ∧ H l = some (.lst (xs.map V.int)) ∧ HdI xs ∧ xs.length < sizeLine ∧ ∀ ys : List Int, ys.Perm (x :: xs) → HdI ys → Q .non (upd H l (.lst (ys.map V.int)))
/-- heappop(l), l a list of ints that is a heap and not empty: the least -/
def rPop : List V → Hp → VK → Prop := fun vs H Q => ∃ (l : Addr) (xs : List Int), vs = [.ref l] ∧ H l = some (.lst (xs.map V.int)) ∧ HdI xs ∧ xs ≠ [] ∧ ∀ (x : Int) (ys : List Int), (x :: ys).Perm xs → HdI ys → (∀ y ∈ xs, x ≤ y) → Q (.int x) (upd H l (.lst (ys.map V.int)))
section
variable {X : Cx}
theorem Inv.aft {pins : List (Addr × Obj)} {σ : L2.St} {H : Hp} {s s' : Shared} {l : Addr} {xs ys : List Int} {its its' : List Value} (I : Inv X pins σ H s) (hH : H l = some (.lst (xs.map V.int))) (af : HQ.Aft l s s' its its') (hv : Vals (ys.map V.int) its') (hz : ys.length ≤ sizeLine) :
    Inv X pins σ (upd H l (.lst (ys.map V.int))) s' := by
  obtain ⟨h2, t2, n2, rfl, k2, g2, p2⟩ := af
  refine I.write (x := l) (e := l) (by rw [hH]; exact trivial) (.inl rfl) k2 ⟨_, g2⟩ ?_
  exact ⟨by rw [List.length_map]; exact hz, its', _, hv, g2⟩
theorem cr_push : CallR X (.builtin "_heapq.heappush") rPush := by
  intro pins s σ H vs us Q I r h
  obtain ⟨l, xs, x, rfl, hH, hhd, hz, q⟩ := h
  cases r with
  | cons r1 r2 =>
    cases r1
    obtain ⟨u, rfl, ru⟩ := Vals.one r2
    obtain ⟨t, rfl⟩ := ru
    obtain ⟨z, its, n, r, hl, e⟩ := I.lstM hH
    rw [List.length_map] at hl
    refine HQ.push e (by omega) (vals_ints r) (fun v hv => ⟨x, t, List.mem_singleton.mp hv⟩) ((hd_iff r).mpr hhd) (fun s' its' af hh => ?_)
    have r3 : Vals ((xs ++ [x]).map V.int) (its ++ [.int x t]) := by
      rw [List.map_append]
      exact r.append (.cons ⟨t, rfl⟩ .nil)
    obtain ⟨ys, py, rv⟩ := vals_perm r3 af.perm
    have py2 : ys.Perm (x :: xs) := py.trans (List.perm_append_singleton x xs)
    exact ⟨.non, _, Inv.aft I hH af rv (by rw [py2.length_eq, List.length_cons]; omega), rfl, q ys py2 ((hd_iff rv).mp hh)⟩
theorem cr_pop : CallR X (.builtin "_heapq.heappop") rPop := by
  intro pins s σ H vs us Q I r h
  obtain ⟨l, xs, rfl, hH, hhd, hne, q⟩ := h
  obtain ⟨u, rfl, ru⟩ := r.one
  cases ru
  obtain ⟨z, its, n, r, hl, e⟩ := I.lstM hH
  rw [List.length_map] at hl z
  refine HQ.pop e (by omega) (vals_ints r) (fun z => hne (by rw [z] at r; cases xs with | nil => rfl | cons a b => cases r)) ((hd_iff r).mpr hhd) (fun s' x its' p af hh hx => ?_)
  obtain ⟨ys, py, rv⟩ := vals_perm r p
  cases ys with
  | nil => cases rv
  | cons y ys =>
    cases rv with
    | cons r1 r2 =>
      obtain ⟨t, rfl⟩ := r1
      refine ⟨.int y, _, Inv.aft I hH af r2 (by have := py.length_eq; rw [List.length_cons] at this; omega), ⟨t, rfl⟩, q y ys py ((hd_iff r2).mp hh) fun m hm => ?_⟩
      obtain ⟨k, hk, rfl⟩ := List.mem_iff_getElem.mp hm
      have hx' : y = xs.getD 0 0 := by
        rw [fn_num, vals_num r] at hx
        exact hx
      have := hhd.least k hk
      simp only [List.getD_eq_getElem?_getD, List.getElem?_eq_getElem hk] at this hx'
      rw [hx']
      exact this
end
/-- a list as a test -/
def tTruL (t : TE) : TT := fun σ H Q => t σ H fun x H' => ∃ (a : Addr) (xs : List V), x = .ref a ∧ H' a = some (.lst xs) ∧ Q (!xs.isEmpty) H'
theorem pt_lst {X : Cx} {e : Expr} {t : TE} (h : PE X e t) (hi : ∀ whole, isTrue e X.env whole = (do let v ← whole; standAt e.pos; holding [v] (truthy v))) : PT X e (tTruL t) := by
  refine ⟨fun pins s σ H Q I hw => ?_⟩
  refine isTrue_plain (thn (h.run pins s σ H _ I hw) fun v s1 ⟨x, H1, I1, r1, a, xs, e1, e2, q⟩ => ?_) (hi _)
  refine tru_ok pins s1 σ H1 x v Q I1 r1 ⟨!xs.isEmpty, ?_, q⟩
  subst e1
  exact .inl ⟨xs, SqL.of e2, rfl⟩
end Ev

namespace Ev
open PySem PySem.Spec PyProof.Rows L2
section
variable {prog : Program} {w : World} {A : Around} {E : Value → Shared → Prop} {s : Shared}
theorem alive_any {a : Addr} {Q : Option Obj → Shared → Prop} (h : Q (s.heap.get? a) s) : wpAny (model prog w) A (loadIfAlive a) Q E s := fun Γ p _ => by
  unfold loadIfAlive
  rw [Sem.wp_loadIfAlive]
  exact h
theorem forIn_any {M : Model} {α β : Type} {f : α → β → Sem (ForInStep β)} {Q : β → Shared → Prop} : ∀ {l : List α} {b : β} {s : Shared} (I : Nat → β → Shared → Prop), I 0 b s → (∀ i v b s, l[i]? = some v → I i b s → wpAny M A (f v b) (fun r s' => ∃ b', r = .yield b' ∧ I (i + 1) b' s') E s) → (∀ b s, I l.length b s → Q b s) → wpAny M A (forIn l b f) Q E s := by
  intro l
  induction l with
  | nil =>
    intro b s I h0 st fin
    rw [List.forIn_nil]
    exact wpAny_pure (fin b s h0)
  | cons v l ih =>
    intro b s I h0 st fin
    rw [List.forIn_cons]
    refine wpAny_bind (wpAny_mono (st 0 v b s rfl h0) (fun r s' h => ?_) fun _ _ e => e)
    obtain ⟨b', rfl, h'⟩ := h
    exact ih (fun i => I (i + 1)) h' (fun i v b s e h => st (i + 1) v b s e h) (fun b s h => fin b s h)
abbrev ZnAt (h : Heap) (z TI TO : Addr) (f0 f1 : Value) : Prop := h.get? z = some { cls := .type "zip", dict := none, data := .fields #[f0, f1, .bool false, .ref TI, .ref TO], slots := #[] }
abbrev TupV (h : Heap) (T : Addr) (vs : List Value) : Prop := h.get? T = some { cls := .type "tuple", data := .seq vs.toArray }
structure ZnApart (z TI TO : Addr) (its ls : List Addr) : Prop where
  TIz : TI ≠ z
  TOz : TO ≠ z
  TITO : TI ≠ TO
  iz : ∀ i ∈ its, i ≠ z ∧ i ≠ TI ∧ i ≠ TO
  nd : its.Nodup
  len : its.length = ls.length
  lz : ∀ l ∈ ls, l ≠ z ∧ l ≠ TI ∧ l ≠ TO ∧ l ∉ its
theorem free_any {z TI TO : Addr} {f0 : Value} {b : Bool} {Q : Bool → Shared → Prop} (hz : ZnAt s.heap z TI TO f0 (.bool b)) (hf : f0 = .none ∨ ∃ T : Addr, f0 = rawInt T) (h1 : Q true s) (h2 : ∀ h' b', ZnAt h' z TI TO f0 (.bool b') → Heap.SameBut z s.heap h' → Q false { s with heap := h' }) :
    wpAny (model prog w) A (Builtin.SmallTypes.ownedTupleIsFree (.ref z)) Q E s := by
  unfold Builtin.SmallTypes.ownedTupleIsFree
  refine wpAny_bind (wpAny_field hz rfl (x := f0) rfl ?_)
  rcases hf with rfl | ⟨T, rfl⟩
  · exact wpAny_pure h1
  · show wpAny _ _ (loadIfAlive ((T : Int).toNat) >>= _) _ _ _
    refine wpAny_bind (alive_any ?_)
    cases e : s.heap.get? (T : Int).toNat with
    | none =>
      simp only [Option.isNone_none, if_true]
      exact wpAny_pure h1
    | some o =>
      simp only [Option.isNone_some, Bool.false_eq_true, if_false]
      refine wpAny_bind (wpAny_field hz rfl (x := .bool b) rfl ?_)
      cases b with
      | true =>
        rw [if_neg (show ¬ ((Value.bool true != Value.bool true) = true) from Bool.false_ne_true)]
        exact wpAny_pure (h2 s.heap true hz (Heap.SameBut.refl _ _))
      | false =>
        rw [if_pos (show (Value.bool false != Value.bool true) = true from rfl)]
        exact wpAny_bind (wpAny_setField_rec hz (by simp) fun h₁ hz₁ hs₁ => wpAny_pure (h2 h₁ true hz₁ hs₁))
/-- some of the iterators are a step on -/
structure ZD (h : Heap) (h' : Heap) (ex : Addr → Prop) (its ls : List Addr) (pos i : Nat) : Prop where
  sz : h'.objs.size = h.objs.size
  old : ∀ c o, c ∉ its → ¬ ex c → h.get? c = some o → h'.get? c = some o
  it : ∀ (k : Nat) (a l : Addr), its[k]? = some a → ls[k]? = some l → h'.IsListIter a l (if k < i then pos + 1 else pos)
theorem ZD.refl {h : Heap} {ex : Addr → Prop} {its ls : List Addr} {pos : Nat} (hi : ∀ (k : Nat) (a l : Addr), its[k]? = some a → ls[k]? = some l → h.IsListIter a l pos) : ZD h h ex its ls pos 0 :=
  ⟨rfl, fun _ _ _ _ e => e, fun k a l h1 h2 => by rw [if_neg (Nat.not_lt_zero _)]; exact hi k a l h1 h2⟩
theorem ZD.step {h h' h'' : Heap} {ex : Addr → Prop} {its ls : List Addr} {pos i : Nat} {a l : Addr} (d : ZD h h' ex its ls pos i) (nd : its.Nodup) (ha : its[i]? = some a) (hl : ls[i]? = some l) (hit : h''.IsListIter a l (pos + 1)) (sb : Heap.SameBut a h' h'') : ZD h h'' ex its ls pos (i + 1) := by
  refine ⟨sb.1.trans d.sz, fun c o hc hx e => sb.extBut _ _ (fun z => hc (by rw [z]; exact List.mem_of_getElem? ha)) (d.old c o hc hx e), fun k b m h1 h2 => ?_⟩
  by_cases c : k = i
  · subst c
    rw [ha] at h1
    rw [hl] at h2
    cases h1
    cases h2
    rw [if_pos (Nat.lt_succ_self _)]
    exact hit
  · have nb : b ≠ a := fun z => by
      subst z
      have l1 := (List.getElem?_eq_some_iff.mp h1)
      have l2 := (List.getElem?_eq_some_iff.mp ha)
      obtain ⟨p1, e1⟩ := l1
      obtain ⟨p2, e2⟩ := l2
      rcases Nat.lt_or_gt_of_ne c with q | q
      · exact List.pairwise_iff_getElem.mp nd k i p1 p2 q (e1.trans e2.symm)
      · exact List.pairwise_iff_getElem.mp nd i k p2 p1 q (e2.trans e1.symm)
    have := (d.it k b m h1 h2).extBut sb.extBut nb
    by_cases c2 : k < i
    · rw [if_pos c2] at this
      rw [if_pos (by omega)]
      exact this
    · rw [if_neg c2] at this
      rw [if_neg (by omega)]
      exact this
theorem next_item_n {z TI TO : Addr} {its ls : List Addr} {f0 : Value} {b : Bool} {pos : Nat} {us : List Value} {old : List Value} {Q : Value → Shared → Prop} (D : ZnApart z TI TO its ls) (hne : its ≠ [])
    (hz : ZnAt s.heap z TI TO f0 (.bool b)) (hf : f0 = .none ∨ ∃ T : Addr, f0 = rawInt T) (hTI : TupV s.heap TI (its.map Value.ref)) (hTO : TupV s.heap TO old) (hold : old.length = its.length)
    (hi : ∀ (k : Nat) (a l : Addr), its[k]? = some a → ls[k]? = some l → s.heap.IsListIter a l pos) (hl : ∀ (k : Nat) (l : Addr), ls[k]? = some l → ∃ (xs : Array Value) (u : Value), s.heap.IsList l xs ∧ xs[pos]? = some u ∧ us[k]? = some u) (hus : us.length = its.length) (hsz : its.length ≤ sizeLine)
    (hQ : ∀ h' f0' b' new, ZnAt h' z TI TO f0' (.bool b') → (f0' = .none ∨ ∃ T : Addr, f0' = rawInt T) → TupV h' TI (its.map Value.ref) → TupV h' TO new → new.length = its.length → (∀ (k : Nat) (a l : Addr), its[k]? = some a → ls[k]? = some l → h'.IsListIter a l (pos + 1)) → TupV h' s.heap.objs.size us → h'.objs.size = s.heap.objs.size + 1 →
      (∀ c o, c ≠ z → c ≠ TO → c ∉ its → s.heap.get? c = some o → h'.get? c = some o) → Q (.ref s.heap.objs.size) { s with heap := h' }) :
    wpAny (model prog w) A (Builtin.«zip.__next__» ⟨[.ref z], []⟩) (fun fin s' => ∃ v, fin = .done (.ret v) ∧ Q v s') E s := by
  show wpAny _ _ (field (.ref z) 2 >>= _) _ _ _
  refine wpAny_bind (wpAny_field hz rfl (x := .bool false) rfl ?_)
  show wpAny _ _ (field (.ref z) 3 >>= _) _ _ _
  refine wpAny_bind (wpAny_field hz rfl (x := .ref TI) rfl ?_)
  refine wpAny_bind (wpAny_seqItems hTI rfl ?_)
  have hemp : (its.map Value.ref).toArray.isEmpty = false := by
    cases its with
    | nil => exact absurd rfl hne
    | cons _ _ => rfl
  simp only [hemp, Bool.false_eq_true, if_false]
  refine wpAny_bind (free_any hz hf ?_ fun h₁ b' hz₁ hs₁ => ?_)
  · simp only [if_true]
    refine wpAny_bind (wpAny_rule ?_)
    refine wpAny_bind (wpAny_field hz rfl (x := .ref TO) rfl ?_)
    refine wpAny_bind (wpAny_setField_rec hz (by simp) fun h₁ hz₁ hs₁ => ?_)
    replace hz₁ : ZnAt h₁ z TI TO .ellipsis (.bool b) := hz₁
    refine wpAny_bind ?_
    have hTO₁ : TupV h₁ TO old := hs₁.extBut _ _ D.TOz hTO
    have hTI₁ : TupV h₁ TI (its.map Value.ref) := hs₁.extBut _ _ D.TIz hTI
    have hi₁ : ∀ (k : Nat) (a l : Addr), its[k]? = some a → ls[k]? = some l → h₁.IsListIter a l pos := fun k a l e1 e2 => (hi k a l e1 e2).extBut hs₁.extBut (D.iz a (List.mem_of_getElem? e1)).1
    have zi : z ∉ its := fun h => (D.iz z h).1 rfl
    have TIi : TI ∉ its := fun h => (D.iz TI h).2.1 rfl
    have TOi : TO ∉ its := fun h => (D.iz TO h).2.2 rfl
    have inz : ∀ a ∈ its, a ≠ z := fun a h => (D.iz a h).1
    have inTI : ∀ a ∈ its, a ≠ TI := fun a h => (D.iz a h).2.1
    have inTO : ∀ a ∈ its, a ≠ TO := fun a h => (D.iz a h).2.2
    refine forIn_any (fun i bb s' => ∃ (h' : Heap) (kept : List Value), s' = { s with heap := h' } ∧ bb = (none, ()) ∧ ZD h₁ h' (fun c => c = TO) its ls pos i ∧ TupV h' TO kept ∧ kept.length = its.length ∧ kept.take i = us.take i) ⟨h₁, old, rfl, rfl, ZD.refl hi₁, hTO₁, hold, by rw [List.take_zero, List.take_zero]⟩ ?_ ?_
    · rintro i v bb s' hv ⟨h', kept, rfl, rfl, d, hk, lk, tk⟩
      rw [List.getElem?_zipIdx, List.getElem?_map] at hv
      cases ha : its[i]? with
      | none => rw [ha] at hv; cases hv
      | some a =>
        rw [ha] at hv
        cases hv
        have am := List.mem_of_getElem? ha
        have il : i < ls.length := by rw [← D.len]; exact (List.getElem?_eq_some_iff.mp ha).1
        have hl0 := List.getElem?_eq_getElem il
        obtain ⟨xs, u, hL, hx, hu⟩ := hl i _ hl0
        have hmem : ls[i] ∈ ls := List.getElem_mem il
        have hit := d.it i a _ ha hl0
        rw [if_neg (Nat.lt_irrefl _)] at hit
        refine wpAny_bind (wpAny_onRaise ?_)
        show wpAny _ _ (Builtin.SmallTypes.nextOf (.ref a) >>= _) _ _ _
        refine wpAny_bind (wpAny_nextOf_list_item (s := { s with heap := h' }) hit (hL.at fun o e => d.old _ o (D.lz _ hmem).2.2.2 (D.lz _ hmem).2.2.1 (hs₁.extBut _ _ (D.lz _ hmem).1 e)) hx fun h₂ hit₂ hs₂ => wpAny_pure ?_)
        have hk₂ : TupV h₂ TO kept := hs₂.extBut _ _ (Ne.symm (inTO a am)) hk
        refine wpAny_bind (wpAny_seqItems hk₂ rfl ?_)
        refine wpAny_bind (wpAny_updateSeq hk₂ rfl ?_ (by rw [List.size_toArray, lk]; exact hsz) (by rw [Array.size_setIfInBounds, List.size_toArray, lk]; omega))
        refine wpAny_bind (wpAny_letGo (wpAny_pure ?_))
        have sb := Heap.SameBut.update (h := h₂) (a := TO) (f := Obj.mapSeq fun x => x.setIfInBounds (0 + i) u)
        have d₂ := d.step D.nd ha hl0 hit₂ hs₂
        have e0 : (0 + i) = i := Nat.zero_add i
        have hk₃ : TupV (h₂.update TO (Obj.mapSeq fun x => x.setIfInBounds (0 + i) u)) TO (kept.set i u) := by
          show Heap.get? _ _ = _
          rw [Heap.get?_update_self _ hk₂ rfl, e0]
          simp [Obj.mapSeq]
        refine ⟨_, rfl, _, kept.set i u, rfl, rfl, ⟨sb.1.trans d₂.sz, fun c o c1 c2 e => sb.extBut _ _ c2 (d₂.old c o c1 c2 e), fun k b l h1 h2 => (d₂.it k b l h1 h2).extBut sb.extBut (inTO b (List.mem_of_getElem? h1))⟩, hk₃, by rw [List.length_set]; exact lk, ?_⟩
        rw [List.take_add_one, List.take_add_one, hu, List.getElem?_set_self (by rw [lk]; exact (List.getElem?_eq_some_iff.mp ha).1), ← tk, List.take_set_of_le (Nat.le_refl _)]
    · rintro bb s' ⟨h', kept, rfl, rfl, d, hk, lk, tk⟩
      rw [List.length_zipIdx, List.length_map] at d tk
      have ek : kept = us := by
        rw [← lk, List.take_length, lk, ← hus, List.take_length] at tk
        exact tk
      subst ek
      dsimp only
      refine wpAny_bind (wpAny_seqItems hk rfl ?_)
      show wpAny _ _ (newTuple kept >>= _) _ _ _
      refine wpAny_bind (wpAny_newTuple ?_ (by rw [hus]; exact hsz))
      have hsz' : h'.objs.size = s.heap.objs.size := by rw [d.sz, hs₁.1]
      have hz₂ : ZnAt h' z TI TO .ellipsis (.bool b) := d.old _ _ zi (Ne.symm D.TOz) hz₁
      show wpAny _ _ (Builtin.SmallTypes.ownedTupleHandOut (.ref z) (.ref h'.objs.size) >>= _) _ _ _
      refine wpAny_bind ?_
      unfold Builtin.SmallTypes.ownedTupleHandOut
      have hz₆ : ZnAt (h'.push { cls := .type "tuple", data := .seq kept.toArray }) z TI TO .ellipsis (.bool b) := Heap.get?_push_of_some _ hz₂
      refine wpAny_bind (wpAny_setField_rec hz₆ (by simp) fun h₇ hz₇ hs₇ => ?_)
      replace hz₇ : ZnAt h₇ z TI TO (rawInt h'.objs.size) (.bool b) := hz₇
      refine wpAny_setField_rec hz₇ (by simp) fun h₈ hz₈ hs₈ => ?_
      replace hz₈ : ZnAt h₈ z TI TO (rawInt h'.objs.size) (.bool false) := hz₈
      have up : ∀ c o, c ≠ z → h'.get? c = some o → h₈.get? c = some o := fun c o c1 e => hs₈.extBut _ _ c1 (hs₇.extBut _ _ c1 (Heap.get?_push_of_some _ e))
      have hzlt : z < h'.objs.size := Heap.lt_size hz₂
      have hnT : TupV h₈ h'.objs.size kept := hs₈.extBut _ _ (Nat.ne_of_gt hzlt) (hs₇.extBut _ _ (Nat.ne_of_gt hzlt) (Heap.get?_push_size _ rfl))
      have hn4 : h₈.objs.size = h'.objs.size + 1 := by rw [hs₈.1, hs₇.1, Heap.size_push]
      refine wpAny_pure ⟨_, rfl, ?_⟩
      show Q (.ref h'.objs.size) _
      have hf' : rawInt h'.objs.size = .none ∨ ∃ T : Addr, rawInt h'.objs.size = rawInt T := .inr ⟨_, rfl⟩
      rw [hsz'] at hnT hn4 hz₈ hf' ⊢
      exact hQ _ _ false kept hz₈ hf' (up _ _ D.TIz (d.old _ _ TIi D.TITO hTI₁)) (up _ _ D.TOz hk) lk (fun k a l e1 e2 => by
        have := d.it k a l e1 e2
        rw [if_pos (List.getElem?_eq_some_iff.mp e1).1] at this
        exact this.at fun o e => up _ _ (inz a (List.mem_of_getElem? e1)) e) hnT hn4 (fun c o c1 c2 c3 e => up _ _ c1 (d.old c o c3 c2 (hs₁.extBut _ _ c1 e)))
  · simp only [Bool.false_eq_true, if_false]
    refine wpAny_bind ?_
    rw [← Array.forIn_toList]
    have hi₁ : ∀ (k : Nat) (a l : Addr), its[k]? = some a → ls[k]? = some l → h₁.IsListIter a l pos := fun k a l e1 e2 => (hi k a l e1 e2).extBut hs₁.extBut (D.iz a (List.mem_of_getElem? e1)).1
    have el : (its.map Value.ref).toArray.toList = its.map Value.ref := rfl
    rw [el]
    refine forIn_any (fun i bb s' => ∃ h' : Heap, s' = { s with heap := h' } ∧ bb = (none, (us.take i).toArray) ∧ ZD h₁ h' (fun _ => False) its ls pos i) ⟨h₁, rfl, by rw [List.take_zero], ZD.refl hi₁⟩ ?_ ?_
    · rintro i v bb s' hv ⟨h', rfl, rfl, d⟩
      rw [List.getElem?_map] at hv
      cases ha : its[i]? with
      | none => rw [ha] at hv; cases hv
      | some a =>
        rw [ha] at hv
        cases hv
        have il : i < ls.length := by rw [← D.len]; exact (List.getElem?_eq_some_iff.mp ha).1
        have hl0 := List.getElem?_eq_getElem il
        obtain ⟨xs, u, hL, hx, hu⟩ := hl i _ hl0
        have hmem : ls[i] ∈ ls := List.getElem_mem il
        have hit := d.it i a _ ha hl0
        rw [if_neg (Nat.lt_irrefl _)] at hit
        refine wpAny_bind (wpAny_holding ?_)
        show wpAny _ _ (Builtin.SmallTypes.nextOf (.ref a) >>= _) _ _ _
        refine wpAny_bind (wpAny_nextOf_list_item (s := { s with heap := h' }) hit (hL.at fun o e => d.old _ o (D.lz _ hmem).2.2.2 (fun z => z) (hs₁.extBut _ _ (D.lz _ hmem).1 e)) hx fun h₂ hit₂ hs₂ => wpAny_pure ?_)
        refine wpAny_pure ⟨_, rfl, h₂, rfl, ?_, d.step D.nd ha hl0 hit₂ hs₂⟩
        rw [List.take_add_one, hu]
        show (none, (us.take i).toArray.push u) = _
        rw [List.push_toArray]
        rfl
    · rintro bb s' ⟨h', rfl, rfl, d⟩
      rw [List.length_map] at d ⊢
      rw [← hus, List.take_length]
      show wpAny _ _ (newTuple us >>= _) _ _ _
      refine wpAny_bind (wpAny_newTuple ?_ (by rw [hus]; exact hsz))
      have hsz' : h'.objs.size = s.heap.objs.size := by rw [d.sz, hs₁.1]
      refine wpAny_pure ⟨_, rfl, ?_⟩
      have keep : ∀ c o, c ≠ z → c ∉ its → s.heap.get? c = some o → (h'.push { cls := .type "tuple", data := .seq us.toArray }).get? c = some o := fun c o c1 c2 e => Heap.get?_push_of_some _ (d.old c o c2 (fun z => z) (hs₁.extBut _ _ c1 e))
      have hnT : TupV (h'.push { cls := .type "tuple", data := .seq us.toArray }) h'.objs.size us := Heap.get?_push_size _ rfl
      have hn4 : (h'.push { cls := .type "tuple", data := .seq us.toArray }).objs.size = h'.objs.size + 1 := Heap.size_push ..
      show Q (.ref h'.objs.size) _
      rw [hsz'] at hnT hn4 ⊢
      have zi : z ∉ its := fun h => (D.iz z h).1 rfl
      have TIi : TI ∉ its := fun h => (D.iz TI h).2.1 rfl
      have TOi : TO ∉ its := fun h => (D.iz TO h).2.2 rfl
      exact hQ _ f0 b' old (Heap.get?_push_of_some _ (d.old _ _ zi (fun z => z) hz₁)) hf (keep _ _ D.TIz TIi hTI) (keep _ _ D.TOz TOi hTO) hold (fun k a l e1 e2 => by
        have := d.it k a l e1 e2
        rw [if_pos (List.getElem?_eq_some_iff.mp e1).1] at this
        exact this.at fun o e => Heap.get?_push_of_some _ e) hnT hn4 (fun c o c1 _ c3 e => keep c o c1 c3 e)

theorem forIn_stop {M : Model} {α β : Type} {f : α → β → Sem (ForInStep β)} {Q : β → Shared → Prop} {v : α} {l : List α} {b : β} {s : Shared} (h : wpAny M A (f v b) (fun _ _ => False) E s) : wpAny M A (forIn (v :: l) b f) Q E s := by
  rw [List.forIn_cons]
  exact wpAny_bind (wpAny_mono h (fun _ _ h => h.elim) fun _ _ e => e)
theorem next_end_n {z TI TO : Addr} {its ls : List Addr} {f0 : Value} {b : Bool} {pos : Nat} {xs : Array Value} {l0 : Addr} {Q : Fin → Shared → Prop} (hh : A.handled = none) (D : ZnApart z TI TO its ls)
    (hz : ZnAt s.heap z TI TO f0 (.bool b)) (hf : f0 = .none ∨ ∃ T : Addr, f0 = rawInt T) (hTI : TupV s.heap TI (its.map Value.ref)) {old : List Value} (hTO : TupV s.heap TO old)
    (hi : ∀ (k : Nat) (a l : Addr), its[k]? = some a → ls[k]? = some l → s.heap.IsListIter a l pos) (hl0 : ls[0]? = some l0) (hL : s.heap.IsList l0 xs) (hend : xs[pos]? = none)
    (hE : ∀ h' e, (∀ c o, c ≠ z → c ∉ its → s.heap.get? c = some o → h'.get? c = some o) → (∃ o, h'.get? e = some o ∧ o.cls = .type "StopIteration") → E (.ref e) { s with heap := h' }) :
    wpAny (model prog w) A (Builtin.«zip.__next__» ⟨[.ref z], []⟩) Q E s := by
  obtain ⟨a0, r, rfl⟩ : ∃ a r, its = a :: r := by
    cases its with
    | nil =>
      have := D.len
      cases ls with
      | nil => cases hl0
      | cons _ _ => simp at this
    | cons a r => exact ⟨a, r, rfl⟩
  have hm : l0 ∈ ls := List.mem_of_getElem? hl0
  have a0z := (D.iz a0 List.mem_cons_self).1
  show wpAny _ _ (field (.ref z) 2 >>= _) _ _ _
  refine wpAny_bind (wpAny_field hz rfl (x := .bool false) rfl ?_)
  show wpAny _ _ (field (.ref z) 3 >>= _) _ _ _
  refine wpAny_bind (wpAny_field hz rfl (x := .ref TI) rfl ?_)
  refine wpAny_bind (wpAny_seqItems hTI rfl ?_)
  have hemp : ((a0 :: r).map Value.ref).toArray.isEmpty = false := rfl
  simp only [hemp, Bool.false_eq_true, if_false]
  refine wpAny_bind (free_any hz hf ?_ fun h₁ b' hz₁ hs₁ => ?_)
  · simp only [if_true]
    refine wpAny_bind (wpAny_rule ?_)
    refine wpAny_bind (wpAny_field hz rfl (x := .ref TO) rfl ?_)
    refine wpAny_bind (wpAny_setField_rec hz (by simp) fun h₁ hz₁ hs₁ => ?_)
    replace hz₁ : ZnAt h₁ z TI TO .ellipsis (.bool b) := hz₁
    refine wpAny_bind ?_
    rw [List.map_cons, List.zipIdx_cons]
    refine forIn_stop ?_
    refine wpAny_bind (wpAny_onRaise ?_)
    show wpAny _ _ (Builtin.SmallTypes.nextOf (.ref a0) >>= _) _ _ _
    refine wpAny_bind (wpAny_nextOf_list_end hh ((hi 0 a0 l0 rfl hl0).extBut hs₁.extBut a0z) (hL.extBut hs₁.extBut (D.lz _ hm).1) hend fun h₂ e hs₂ he => ?_)
    obtain ⟨oe, hoe, hce⟩ := he
    have hz₂ : ZnAt h₂ z TI TO .ellipsis (.bool b) := hs₂ _ _ (Ne.symm a0z) hz₁
    have hez : e ≠ z := fun x => by subst x; rw [hz₂] at hoe; cases hoe; simp at hce
    refine wpAny_setField_rec hz₂ (by simp) fun h₃ _ hs₃ => hE h₃ e (fun c o c1 c2 x => hs₃.extBut _ _ c1 (hs₂ _ _ (fun z => c2 (by rw [z]; exact List.mem_cons_self)) (hs₁.extBut _ _ c1 x))) ⟨oe, hs₃.extBut _ _ hez hoe, hce⟩
  · simp only [Bool.false_eq_true, if_false]
    refine wpAny_bind ?_
    rw [← Array.forIn_toList]
    show wpAny _ _ (forIn (Value.ref a0 :: r.map Value.ref) _ _) _ _ _
    refine forIn_stop ?_
    refine wpAny_bind (wpAny_holding ?_)
    show wpAny _ _ (Builtin.SmallTypes.nextOf (.ref a0) >>= _) _ _ _
    refine wpAny_bind (wpAny_nextOf_list_end (s := { s with heap := h₁ }) hh ((hi 0 a0 l0 rfl hl0).extBut hs₁.extBut a0z) (hL.extBut hs₁.extBut (D.lz _ hm).1) hend fun h₂ e hs₂ he => ?_)
    exact hE h₂ e (fun c o c1 c2 x => hs₂ _ _ (fun z => c2 (by rw [z]; exact List.mem_cons_self)) (hs₁.extBut _ _ c1 x)) he
theorem pyNext_zipn_item {z TI TO : Addr} {its ls : List Addr} {f0 : Value} {b : Bool} {pos : Nat} {us : List Value} {old : List Value} {Q : Option Value → Shared → Prop} (D : ZnApart z TI TO its ls) (hne : its ≠ [])
    (hz : ZnAt s.heap z TI TO f0 (.bool b)) (hf : f0 = .none ∨ ∃ T : Addr, f0 = rawInt T) (hTI : TupV s.heap TI (its.map Value.ref)) (hTO : TupV s.heap TO old) (hold : old.length = its.length)
    (hi : ∀ (k : Nat) (a l : Addr), its[k]? = some a → ls[k]? = some l → s.heap.IsListIter a l pos) (hl : ∀ (k : Nat) (l : Addr), ls[k]? = some l → ∃ (xs : Array Value) (u : Value), s.heap.IsList l xs ∧ xs[pos]? = some u ∧ us[k]? = some u) (hus : us.length = its.length) (hsz : its.length ≤ sizeLine)
    (hQ : ∀ h' f0' b' new, ZnAt h' z TI TO f0' (.bool b') → (f0' = .none ∨ ∃ T : Addr, f0' = rawInt T) → TupV h' TI (its.map Value.ref) → TupV h' TO new → new.length = its.length → (∀ (k : Nat) (a l : Addr), its[k]? = some a → ls[k]? = some l → h'.IsListIter a l (pos + 1)) → TupV h' s.heap.objs.size us → h'.objs.size = s.heap.objs.size + 1 →
      (∀ c o, c ≠ z → c ≠ TO → c ∉ its → s.heap.get? c = some o → h'.get? c = some o) → Q (some (.ref s.heap.objs.size)) { s with heap := h' }) :
    wpAny (model prog w) A (pyNext (.ref z)) Q E s := by
  have hT : s.TypeIs (.ref z) "zip" := ⟨_, hz, rfl⟩
  unfold pyNext
  exact wpAny_bind (wpAny_attempt (wpAny_callSpecial?_slot (name := Str.ofString "__next__") hT F.slot_zip_next
    (wpAny_call_entry F.slot_zip_next hT F.entry_zip_next
      (next_item_n D hne hz hf hTI hTO hold hi hl hus hsz fun h' f0' b' new a1 a2 a3 a4 a5 a6 a7 a8 a9 => wpAny_pure (hQ h' f0' b' new a1 a2 a3 a4 a5 a6 a7 a8 a9)) (F.args_zip_next_1 _))))
theorem pyNext_zipn_end {z TI TO : Addr} {its ls : List Addr} {f0 : Value} {b : Bool} {pos : Nat} {xs : Array Value} {l0 : Addr} {Q : Option Value → Shared → Prop} (hh : A.handled = none) (D : ZnApart z TI TO its ls)
    (hz : ZnAt s.heap z TI TO f0 (.bool b)) (hf : f0 = .none ∨ ∃ T : Addr, f0 = rawInt T) (hTI : TupV s.heap TI (its.map Value.ref)) {old : List Value} (hTO : TupV s.heap TO old)
    (hi : ∀ (k : Nat) (a l : Addr), its[k]? = some a → ls[k]? = some l → s.heap.IsListIter a l pos) (hl0 : ls[0]? = some l0) (hL : s.heap.IsList l0 xs) (hend : xs[pos]? = none)
    (hQ : ∀ h', (∀ c o, c ≠ z → c ∉ its → s.heap.get? c = some o → h'.get? c = some o) → Q none { s with heap := h' }) : wpAny (model prog w) A (pyNext (.ref z)) Q E s := by
  have hT : s.TypeIs (.ref z) "zip" := ⟨_, hz, rfl⟩
  unfold pyNext
  refine wpAny_bind (wpAny_attempt (wpAny_callSpecial?_slot (name := Str.ofString "__next__") hT F.slot_zip_next
    (wpAny_call_entry F.slot_zip_next hT F.entry_zip_next (next_end_n hh D hz hf hTI hTO hi hl0 hL hend fun h' e hk he => ?_) (F.args_zip_next_1 _))))
  obtain ⟨o, ho, hc⟩ := he
  refine wpAny_bind (wpAny_isInstance (T := "StopIteration") (b := true) ⟨o, ho, hc⟩ isSubtype_stop ?_)
  exact wpAny_pure (hQ _ hk)
theorem pyIter_zipn {z TI TO : Addr} {f0 f1 : Value} {Q : Value → Shared → Prop} (hz : ZnAt s.heap z TI TO f0 f1) (h : Q (.ref z) s) : wpAny (model prog w) A (pyIter (.ref z)) Q E s := by
  have hT : s.TypeIs (.ref z) "zip" := ⟨_, hz, rfl⟩
  refine wpAny_pyIter_slot hT F.slot_zip_iter (wpAny_call_entry F.slot_zip_iter hT F.entry_zip_iter ?_ (F.args_zip_iter_1 _))
  show wpAny _ _ (ret (.ref z)) _ _ s
  exact wpAny_pure ⟨_, rfl, "zip", _, hT, F.slot_zip_next.lookup, h⟩
/-- the iterators of lists, made one behind another -/
theorem iterAll_n {ls : List Addr} {Q : List Value → Shared → Prop} (hl : ∀ l ∈ ls, ∃ xs : Array Value, s.heap.IsList l xs)
    (hQ : ∀ (h' : Heap) (its : List Addr), its.length = ls.length → (∀ (k : Nat) (a : Addr), its[k]? = some a → a = s.heap.objs.size + k) → (∀ (k : Nat) (a l : Addr), its[k]? = some a → ls[k]? = some l → h'.IsListIter a l 0) → h'.objs.size = s.heap.objs.size + ls.length → (∀ c o, s.heap.get? c = some o → h'.get? c = some o) → Q (its.map Value.ref) { s with heap := h' }) :
    wpAny (model prog w) A (Builtin.SmallTypes.iterAll (ls.map Value.ref)) Q E s := by
  unfold Builtin.SmallTypes.iterAll
  refine wpAny_bind ?_
  refine forIn_any (fun i b s' => ∃ (h' : Heap) (its : List Addr), s' = { s with heap := h' } ∧ b = (its.map Value.ref).toArray ∧ its.length = i ∧ (∀ (k : Nat) (a : Addr), its[k]? = some a → a = s.heap.objs.size + k) ∧ (∀ (k : Nat) (a l : Addr), its[k]? = some a → ls[k]? = some l → h'.IsListIter a l 0) ∧ h'.objs.size = s.heap.objs.size + i ∧ (∀ c o, s.heap.get? c = some o → h'.get? c = some o)) ⟨s.heap, [], rfl, rfl, rfl, fun k a e => by simp at e, fun k a l e => by simp at e, rfl, fun _ _ e => e⟩ ?_ ?_
  · rintro i v b s' hv ⟨h', its, rfl, rfl, li, ad, it, sz, old⟩
    rw [List.getElem?_map] at hv
    cases e : ls[i]? with
    | none => rw [e] at hv; cases hv
    | some l =>
      rw [e] at hv
      cases hv
      obtain ⟨xs, hL⟩ := hl l (List.mem_of_getElem? e)
      refine wpAny_bind (wpAny_holding (wpAny_pyIter_list (s := { s with heap := h' }) (hL.at fun o q => old _ _ q) ?_))
      refine wpAny_pure ⟨_, rfl, _, its ++ [h'.objs.size], rfl, by rw [List.push_toArray, List.map_append]; rfl, by rw [List.length_append, li]; rfl, fun k a q => ?_, fun k a l q1 q2 => ?_, ?_, fun c o q => Heap.get?_push_of_some _ (old c o q)⟩
      · rw [List.getElem?_append] at q
        split at q
        · exact ad k a q
        · rename_i c
          cases ek : k - its.length with
          | zero =>
            rw [ek] at q
            cases q
            have ekk : k = i := by omega
            rw [ekk]
            exact sz
          | succ n => rw [ek] at q; cases q
      · rw [List.getElem?_append] at q1
        split at q1
        · exact (it k a l q1 q2).at fun o q => Heap.get?_push_of_some _ q
        · rename_i c
          cases ek : k - its.length with
          | zero =>
            rw [ek] at q1
            cases q1
            have : k = i := by omega
            subst this
            rw [e] at q2
            cases q2
            exact ⟨_, Heap.get?_push_size _ rfl, rfl, rfl⟩
          | succ n => rw [ek] at q1; cases q1
      · show (Heap.push _ _).objs.size = _
        rw [Heap.size_push, sz]
        omega
  · rintro b s' ⟨h', its, rfl, rfl, li, ad, it, sz, old⟩
    rw [List.length_map] at li sz
    exact wpAny_pure (hQ h' its li ad it sz old)
end
end Ev

namespace Ev
open PySem PySem.Spec PyProof.Rows L2
theorem meets_zip_n (l : Addr) (ls : List Addr) : Meets (Builtin.«zip.__new__» ⟨.type "zip" :: (l :: ls).map Value.ref, []⟩) (fun _ R s => (∀ m ∈ l :: ls, ∃ xs : Array Value, s.heap.IsList m xs) ∧ (l :: ls).length ≤ sizeLine ∧
    ∀ (h' : Heap) (its : List Addr), its.length = (l :: ls).length → (∀ (k : Nat) (a : Addr), its[k]? = some a → a = s.heap.objs.size + k) → (∀ (k : Nat) (a m : Addr), its[k]? = some a → (l :: ls)[k]? = some m → h'.IsListIter a m 0) → h'.objs.size = s.heap.objs.size + its.length + 3 →
      TupV h' (s.heap.objs.size + its.length) (its.map Value.ref) → TupV h' (s.heap.objs.size + its.length + 1) (its.map fun _ => Value.none) → ZnAt h' (s.heap.objs.size + its.length + 2) (s.heap.objs.size + its.length) (s.heap.objs.size + its.length + 1) .none (.bool false) → (∀ c o, s.heap.get? c = some o → h'.get? c = some o) → R (.ok (.ret (.ref (s.heap.objs.size + its.length + 2)))) { s with heap := h' }) :=
  .of_wp fun prog w A R s h => by
    obtain ⟨hl, hz, h⟩ := h
    have hsub := sub_zip
    unfold Builtin.«zip.__new__»
    have e1 : Builtin.SmallTypes.newClass "zip" ⟨Value.type "zip" :: (l :: ls).map Value.ref, []⟩ = pure (Value.type "zip", (l :: ls).map Value.ref) := by
      unfold Builtin.SmallTypes.newClass
      have e2 : isType (Value.type "zip") = pure true := rfl
      simp only [e2, hsub, pure_bind, Bool.not_true, Bool.false_eq_true, if_false]
    refine wpAny_bind (wpAny_of_eq e1 ?_)
    show wpAny _ _ (Builtin.SmallTypes.iterAll ((l :: ls).map Value.ref) >>= _) _ _ _
    refine wpAny_bind (iterAll_n hl fun h' its li ad it sz old => ?_)
    refine wpAny_bind (wpAny_newTuple ?_ (by rw [List.length_map, li]; exact hz))
    refine wpAny_bind (wpAny_newTuple ?_ (by rw [List.length_map, List.length_map, li]; exact hz))
    refine wpAny_bind ?_
    unfold Builtin.SmallTypes.newRecord
    refine wpAny_newObj_type ?_ (hd := by show (5 : Nat) ≤ _; decide)
    have z1 : (h'.push { cls := .type "tuple", data := .seq (its.map Value.ref).toArray }).objs.size = s.heap.objs.size + its.length + 1 := by rw [Heap.size_push, sz, li]
    have sz' : h'.objs.size = s.heap.objs.size + its.length := by rw [sz, li]
    have z2 : ((h'.push { cls := .type "tuple", data := .seq (its.map Value.ref).toArray }).push { cls := .type "tuple", data := .seq ((its.map Value.ref).map fun _ => Value.none).toArray }).objs.size = s.heap.objs.size + its.length + 2 := by rw [Heap.size_push, z1]
    have em : (its.map Value.ref).map (fun _ => Value.none) = its.map fun _ => Value.none := by rw [List.map_map]; rfl
    refine wpAny_pure ⟨_, rfl, ?_⟩
    have g0 : (((h'.push { cls := .type "tuple", data := .seq (its.map Value.ref).toArray }).push { cls := .type "tuple", data := .seq ((its.map Value.ref).map fun _ => Value.none).toArray }).push { cls := .type "zip", data := .fields #[.none, .bool false, .bool false, .ref h'.objs.size, .ref (h'.push { cls := .type "tuple", data := .seq (its.map Value.ref).toArray }).objs.size] }).get? ((h'.push { cls := .type "tuple", data := .seq (its.map Value.ref).toArray }).push { cls := .type "tuple", data := .seq ((its.map Value.ref).map fun _ => Value.none).toArray }).objs.size = some _ := Heap.get?_push_size _ rfl
    have g1 : ((h'.push { cls := .type "tuple", data := .seq (its.map Value.ref).toArray }).push { cls := .type "tuple", data := .seq ((its.map Value.ref).map fun _ => Value.none).toArray }).get? (h'.push { cls := .type "tuple", data := .seq (its.map Value.ref).toArray }).objs.size = some _ := Heap.get?_push_size _ rfl
    have g2 : (h'.push { cls := .type "tuple", data := .seq (its.map Value.ref).toArray }).get? h'.objs.size = some _ := Heap.get?_push_size _ rfl
    have g1' := Heap.get?_push_of_some { cls := .type "zip", data := .fields #[.none, .bool false, .bool false, .ref h'.objs.size, .ref (h'.push { cls := .type "tuple", data := .seq (its.map Value.ref).toArray }).objs.size] } g1
    have g2' := Heap.get?_push_of_some { cls := .type "zip", data := .fields #[.none, .bool false, .bool false, .ref h'.objs.size, .ref (h'.push { cls := .type "tuple", data := .seq (its.map Value.ref).toArray }).objs.size] } (Heap.get?_push_of_some { cls := .type "tuple", data := .seq ((its.map Value.ref).map fun _ => Value.none).toArray } g2)
    have z3 : (((h'.push { cls := .type "tuple", data := .seq (its.map Value.ref).toArray }).push { cls := .type "tuple", data := .seq ((its.map Value.ref).map fun _ => Value.none).toArray }).push { cls := .type "zip", data := .fields #[.none, .bool false, .bool false, .ref h'.objs.size, .ref (h'.push { cls := .type "tuple", data := .seq (its.map Value.ref).toArray }).objs.size] }).objs.size = s.heap.objs.size + its.length + 3 := by rw [Heap.size_push, z2]
    have hk : ∀ c o, h'.get? c = some o → (((h'.push { cls := .type "tuple", data := .seq (its.map Value.ref).toArray }).push { cls := .type "tuple", data := .seq ((its.map Value.ref).map fun _ => Value.none).toArray }).push { cls := .type "zip", data := .fields #[.none, .bool false, .bool false, .ref h'.objs.size, .ref (h'.push { cls := .type "tuple", data := .seq (its.map Value.ref).toArray }).objs.size] }).get? c = some o := fun c o e => Heap.get?_push_of_some _ (Heap.get?_push_of_some _ (Heap.get?_push_of_some _ e))
    show R (Except.ok (Flow.ret (Value.ref ((h'.push { cls := .type "tuple", data := .seq (its.map Value.ref).toArray }).push { cls := .type "tuple", data := .seq ((its.map Value.ref).map fun _ => Value.none).toArray }).objs.size))) { s with heap := ((h'.push { cls := .type "tuple", data := .seq (its.map Value.ref).toArray }).push { cls := .type "tuple", data := .seq ((its.map Value.ref).map fun _ => Value.none).toArray }).push { cls := .type "zip", data := .fields #[.none, .bool false, .bool false, .ref h'.objs.size, .ref (h'.push { cls := .type "tuple", data := .seq (its.map Value.ref).toArray }).objs.size] } }
    rw [z1, z2, sz', em] at g0
    rw [z1, sz', em] at g1'
    rw [z1, sz', em] at g2'
    rw [z1, sz', em] at z3
    rw [z1, sz', em] at hk
    rw [z2, z1, sz', em]
    exact h _ its li ad (fun k a m e1 e2 => (it k a m e1 e2).at fun o e => hk _ o e) z3 g2' g1' g0 fun c o e => hk c o (old c o e)
section
variable {prog : Program} {w : World} {A : Around} {E : Value → Shared → Prop} {s : Shared}
theorem typeCall_zip_n (a : Value) (l : List Value) : checkTypeCall "zip" ⟨a :: l, []⟩ = pure () := by kernel_rfl
theorem newCall_zip_n (a : Value) (l : List Value) : checkBuiltinCall "zip.__new__" ⟨.type "zip" :: a :: l, []⟩ = pure () := by kernel_rfl
theorem args_object_init_n (c a : Value) (l : List Value) : argsOk "object.__init__" ⟨c :: a :: l, []⟩ := by
  unfold argsOk; rw [signature?_of (id := "object.__init__") (n := ['_', '_', 't', 'i', 'n', 'i', '_', '_']) (o := ['t', 'c', 'e', 'j', 'b', 'o']) (by kernel_rfl) F.owner_object]; kernel_rfl
theorem call_zip_n {l : Addr} {ls : List Addr} {Q : Value → Shared → Prop} (hl : ∀ m ∈ l :: ls, ∃ xs : Array Value, s.heap.IsList m xs) (hz : (l :: ls).length ≤ sizeLine)
    (h : ∀ (h' : Heap) (its : List Addr), its.length = (l :: ls).length → (∀ (k : Nat) (a : Addr), its[k]? = some a → a = s.heap.objs.size + k) → (∀ (k : Nat) (a m : Addr), its[k]? = some a → (l :: ls)[k]? = some m → h'.IsListIter a m 0) → h'.objs.size = s.heap.objs.size + its.length + 3 →
      TupV h' (s.heap.objs.size + its.length) (its.map Value.ref) → TupV h' (s.heap.objs.size + its.length + 1) (its.map fun _ => Value.none) → ZnAt h' (s.heap.objs.size + its.length + 2) (s.heap.objs.size + its.length) (s.heap.objs.size + its.length + 1) .none (.bool false) → (∀ c o, s.heap.get? c = some o → h'.get? c = some o) → Q (.ref (s.heap.objs.size + its.length + 2)) { s with heap := h' }) :
    wpAny (model prog w) A (call (.type "zip") ((l :: ls).map Value.ref)) Q E s := by
  refine callType_new F.called_zip (by decide) (typeCall_zip_n _ _) (newCall_zip_n _ _) (fun obj => args_object_init_n obj _ _) F.entry_zip_new (meets_zip_n l ls) ⟨hl, hz, fun h' its a1 a2 a3 a4 a5 a6 a7 a8 => ?_⟩
  exact ⟨⟨_, a7, rfl⟩, h h' its a1 a2 a3 a4 a5 a6 a7 a8⟩
end
end Ev

namespace Ev
open PySem PySem.Spec PyProof.Rows L2
/-- the lists at ls as they stand at each turn, the items in new tuples -/
def Itzn (K : PySem.W.Frag) (ls : List Addr) : It :=
  ⟨fun i H => ∃ us : List V, us.length = ls.length ∧ ∀ (k : Nat) (l : Addr), ls[k]? = some l → ∃ (xs : List V) (x : V), SqL K H l xs ∧ xs[i]? = some x ∧ us[k]? = some x,
    fun i H v H' => ∃ (T : Addr) (us : List V), v = .ref T ∧ H T = none ∧ H' = upd H T (.tup us) ∧ us.length = ls.length ∧ ∀ (k : Nat) (l : Addr) (xs : List V), ls[k]? = some l → SqL K H l xs → xs[i]? = us[k]?,
    fun i H => ∃ (l : Addr) (xs : List V), ls[0]? = some l ∧ SqL K H l xs ∧ xs.length ≤ i⟩
structure ZnT (z TI TO : Addr) (its ls : List Addr) (i : Nat) (h : Heap) : Prop where
  z : ∃ f0 b, ZnAt h z TI TO f0 (.bool b) ∧ (f0 = .none ∨ ∃ T : Addr, f0 = rawInt T)
  ti : TupV h TI (its.map Value.ref)
  to : ∃ old : List Value, TupV h TO old ∧ old.length = its.length
  it : ∀ (k : Nat) (a l : Addr), its[k]? = some a → ls[k]? = some l → h.IsListIter a l i
theorem turn_zipn {P : Program} {w : World} {K : PySem.W.Frag} {x : Str} {tpos : Pos} {z TI TO : Addr} {its ls : List Addr} (D : ZnApart z TI TO its ls) (hne : its ≠ []) (hsz : its.length ≤ sizeLine) :
    Turn P w K (.Name x tpos) (Itzn K ls) (z :: TI :: TO :: its) z (fun i h => ZnT z TI TO its ls i h) where
  mem := List.mem_cons_self
  obj := fun i h st c hc => by
    obtain ⟨⟨f0, b, hz, _⟩, hTI, ⟨old, hTO, _⟩, hit⟩ := st
    rcases List.mem_cons.mp hc with rfl | hc
    · exact ⟨_, hz, fun v q => nomatch q⟩
    · rcases List.mem_cons.mp hc with rfl | hc
      · exact ⟨_, hTI, fun v q => nomatch q⟩
      · rcases List.mem_cons.mp hc with rfl | hc
        · exact ⟨_, hTO, fun v q => nomatch q⟩
        · obtain ⟨k, hk⟩ := List.getElem?_of_mem hc
          have kl : k < ls.length := by rw [← D.len]; exact (List.getElem?_eq_some_iff.mp hk).1
          obtain ⟨o, e, _, d⟩ := hit k c _ hk (List.getElem?_eq_getElem kl)
          exact ⟨o, e, fun v q => by rw [d] at q; cases q⟩
  keep := fun i h h' st k => by
    obtain ⟨⟨f0, b, hz, hf⟩, hTI, ⟨old, hTO, ho⟩, hit⟩ := st
    exact ⟨⟨f0, b, k z List.mem_cons_self _ hz, hf⟩, k TI (by simp) _ hTI, ⟨old, k TO (by simp) _ hTO, ho⟩, fun j a l e1 e2 => (hit j a l e1 e2).at fun o q => k a (by simp [List.mem_of_getElem? e1]) o q⟩
  item := by
    intro X hP hw hK hc i pins s σ H E I hf st hg
    subst hP hw hK
    obtain ⟨⟨f0, b, hz, hf0⟩, hTI, ⟨old, hTO, hold⟩, hit⟩ := st
    obtain ⟨us, lus, hus⟩ := hg
    -- the values that stand for the items
    have all : ∀ n, n ≤ ls.length → ∃ ws : List Value, ws.length = n ∧ Vals (us.take n) ws ∧ ∀ (k : Nat) (l : Addr), k < n → ls[k]? = some l → ∃ (xs : Array Value) (u : Value), s.heap.IsList l xs ∧ xs[i]? = some u ∧ ws[k]? = some u := by
      intro n
      induction n with
      | zero => intro _; exact ⟨[], rfl, by rw [List.take_zero]; exact .nil, fun k l h => absurd h (Nat.not_lt_zero _)⟩
      | succ n ih =>
        intro hn
        obtain ⟨ws, lw, rv, hw⟩ := ih (by omega)
        have hl := List.getElem?_eq_getElem (show n < ls.length by omega)
        obtain ⟨xs, x, hq, hx, hu⟩ := hus n _ hl
        obtain ⟨its', rv', p, _⟩ := I.list hq
        obtain ⟨u, hu', ru⟩ := rv'.get hx
        refine ⟨ws ++ [u], by rw [List.length_append, lw]; rfl, ?_, fun k l hk e => ?_⟩
        · rw [List.take_add_one, hu]
          exact rv.append (.cons ru .nil)
        · rcases Nat.lt_succ_iff_lt_or_eq.mp hk with q | q
          · obtain ⟨xs, u2, a, b, c⟩ := hw k l q e
            exact ⟨xs, u2, a, b, by rw [List.getElem?_append_left (by omega)]; exact c⟩
          · subst q
            rw [hl] at e
            cases e
            exact ⟨_, u, p.isList, by simpa using hu', by rw [List.getElem?_append_right (by omega), lw, Nat.sub_self]; rfl⟩
    obtain ⟨ws, lw, rv, hws⟩ := all ls.length (Nat.le_refl _)
    rw [← lus, List.take_length] at rv
    have hzl : z < s.heap.objs.size := Heap.lt_size hz
    refine pyNext_zipn_item D hne hz hf0 hTI hTO hold hit (fun k l e => hws k l (List.getElem?_eq_some_iff.mp e).1 e) (by rw [lw, D.len]) hsz fun h' f0' b' new z' hf' TI' TO' ln it' hT hsz' hk => ?_
    refine ⟨_, rfl, ?_⟩
    refine wpAny_pure ?_
    have new' : ObjOk X.prog X.w (upd H s.heap.objs.size (.tup us)) h' s.heap.objs.size (.tup us) :=
      ⟨by show us.length ≤ sizeLine; rw [lus, ← D.len]; exact hsz, ws, rv, ⟨_, hT, rfl, _, rfl⟩⟩
    have I1 : Inv X pins σ (upd H s.heap.objs.size (.tup us)) { s with heap := h' } :=
      I.turnedNew (t' := s.toks) (ch := z :: TI :: TO :: its) (fun c o hb q => hk c o (fun q' => hb (by simp [q'])) (fun q' => hb (by simp [q'])) (fun q' => hb (by simp [q'])) q) hf (Nat.le_refl _) new'
    refine ⟨.ref s.heap.objs.size, _, I1, rfl, ⟨_, us, rfl, I.hok.fresh (Nat.le_refl _), rfl, lus, fun k l xs e hxs => ?_⟩, ⟨⟨f0', b', z', hf'⟩, TI', ⟨new, TO', ln⟩, it'⟩, fun c hcm => ?_⟩
    · obtain ⟨ys, y, hq, hy, hu⟩ := hus k l e
      rw [I.list_inj hxs hq, hy, hu]
    · have hlt : c < s.heap.objs.size := by
        rcases List.mem_cons.mp hcm with rfl | hcm
        · exact hzl
        · rcases List.mem_cons.mp hcm with rfl | hcm
          · exact Heap.lt_size hTI
          · rcases List.mem_cons.mp hcm with rfl | hcm
            · exact Heap.lt_size hTO
            · obtain ⟨k, hk'⟩ := List.getElem?_of_mem hcm
              have kl : k < ls.length := by rw [← D.len]; exact (List.getElem?_eq_some_iff.mp hk').1
              obtain ⟨o, e, _⟩ := hit k c _ hk' (List.getElem?_eq_getElem kl)
              exact Heap.lt_size e
      rw [upd_ne (Nat.ne_of_lt hlt)]
      exact (hf c hcm).1
  done := by
    intro X hP hw hK hc i pins s σ H E I hf st hg
    subst hP hw hK
    obtain ⟨⟨f0, b, hz, hf0⟩, hTI, ⟨old, hTO, hold⟩, hit⟩ := st
    obtain ⟨l, xs, hl0, hq, hend⟩ := hg
    obtain ⟨its', rv, p, _⟩ := I.list hq
    have l1 := rv.length
    refine pyNext_zipn_end (I.ok.hd hc) D hz hf0 hTI hTO hit hl0 p.isList (by simp; omega) fun h' hk => ⟨rfl, I.turnedL (t' := s.toks) (ch := z :: TI :: TO :: its) (fun c o hb q => hk c o (fun q' => hb (by simp [q'])) (fun q' => hb (by simp [q'])) q) hf⟩
  self := fun A i s Q E st h => by
    obtain ⟨⟨f0, b, hz, _⟩, _⟩ := st
    exact pyIter_zipn hz h
def iZipn (K : PySem.W.Frag) (te : TE) : TI := fun σ H R => te σ H fun y H1 => ∃ (a : Addr) (ls : List Addr), y = .ref a ∧ (SqT K H1 a (ls.map V.ref) ∨ SqL K H1 a (ls.map V.ref)) ∧ ls ≠ [] ∧ ls.length ≤ sizeLine ∧ (∀ l ∈ ls, ∃ xs, SqL K H1 l xs) ∧ R (Itzn K ls) H1
theorem vals_refs : ∀ {ls : List Addr} {us : List Value}, Vals (ls.map V.ref) us → us = ls.map Value.ref
  | [], _, .nil => rfl
  | l :: ls, _, .cons h t => by
    cases h
    rw [vals_refs t]
    rfl
theorem pi_zipn {X : Cx} {e : Expr} {te : TE} {p pos tpos sp_ : Pos} {x : Str} (hg : Gl X "zip") (hm : X.mg "zip" = none) (he : PE X e te)
    (hst : starEach [.Starred e sp_] X.env = [(true, eval e X.env)] := by rfl) :
    PI X (.Name x tpos) (.Call (.Name "zip" p) [.Starred e sp_] [] pos) (iZipn X.K te) := by
  refine ⟨fun pins s σ H R I h => ?_⟩
  refine Call_ (ld_blt I hg hm PyProof.Rows.boot_zip ?_)
  rw [hst]
  refine PySem.W.ks_call (P := fun _ => True) rfl (fun h _ => ⟨.machine, .inr (.inl rfl), PySem.W.Looks.of_pure rfl⟩) (PySem.W.ks_lone (thn (he.run pins s σ H _ I h) fun v s1 ⟨y, H1, I1, ry, a, ls, ey, hx, hne, hsz, hls, q⟩ => ?_))
  subst ey
  obtain rfl : v = Value.ref a := ry
  refine StX.star_any I1 hx fun us s2 I2 rv => ⟨trivial, ?_⟩
  rw [vals_refs rv]
  obtain ⟨l, lr, rfl⟩ : ∃ l lr, ls = l :: lr := by
    cases ls with
    | nil => exact absurd rfl hne
    | cons l lr => exact ⟨l, lr, rfl⟩
  refine call_zip_n (fun m hm' => ?_) hsz fun h' its li ad it sz hTI hTO hz hk => ?_
  · obtain ⟨xs, hq⟩ := hls m hm'
    obtain ⟨its', _, p', _⟩ := I2.list hq
    exact ⟨_, p'.isList⟩
  · refine pyIter_zipn hz ?_
    have I3 : Inv X pins σ H1 { s2 with heap := h' } := I2.kept (t' := s2.toks) hk
    have ge : ∀ a ∈ its, s2.heap.objs.size ≤ a ∧ a < s2.heap.objs.size + its.length := fun a ha => by
      obtain ⟨k, hk'⟩ := List.getElem?_of_mem ha
      rw [ad k a hk']
      exact ⟨Nat.le_add_right _ _, Nat.add_lt_add_left (List.getElem?_eq_some_iff.mp hk').1 _⟩
    have old : ∀ m ∈ l :: lr, m < s2.heap.objs.size := fun m hm' => by
      obtain ⟨xs, hq⟩ := hls m hm'
      obtain ⟨its', _, p', _⟩ := I2.list hq
      exact p'.lt
    have D : ZnApart (s2.heap.objs.size + its.length + 2) (s2.heap.objs.size + its.length) (s2.heap.objs.size + its.length + 1) its (l :: lr) := by
      refine ⟨fun e => ?_, fun e => ?_, fun e => ?_, fun a ha => ⟨fun e => ?_, fun e => ?_, fun e => ?_⟩, ?_, li, fun m hm' => ⟨fun e => ?_, fun e => ?_, fun e => ?_, fun e => ?_⟩⟩
      · have : (s2.heap.objs.size + its.length : Nat) = s2.heap.objs.size + its.length + 2 := e
        omega
      · have : (s2.heap.objs.size + its.length + 1 : Nat) = s2.heap.objs.size + its.length + 2 := e
        omega
      · have : (s2.heap.objs.size + its.length : Nat) = s2.heap.objs.size + its.length + 1 := e
        omega
      · have := (ge a ha).2
        rw [e] at this
        exact absurd this (by show ¬ (s2.heap.objs.size + its.length + 2 : Nat) < s2.heap.objs.size + its.length; omega)
      · have := (ge a ha).2
        rw [e] at this
        exact absurd this (Nat.lt_irrefl _)
      · have := (ge a ha).2
        rw [e] at this
        exact absurd this (by show ¬ (s2.heap.objs.size + its.length + 1 : Nat) < s2.heap.objs.size + its.length; omega)
      · refine List.pairwise_iff_getElem.mpr fun i j hi hj hij e => ?_
        have e1 := ad i _ (List.getElem?_eq_getElem hi)
        have e2 := ad j _ (List.getElem?_eq_getElem hj)
        rw [e, e2] at e1
        have : (s2.heap.objs.size + j : Nat) = s2.heap.objs.size + i := e1
        omega
      · have := old m hm'
        rw [e] at this
        exact absurd this (by show ¬ (s2.heap.objs.size + its.length + 2 : Nat) < s2.heap.objs.size; omega)
      · have := old m hm'
        rw [e] at this
        exact absurd this (by show ¬ (s2.heap.objs.size + its.length : Nat) < s2.heap.objs.size; omega)
      · have := old m hm'
        rw [e] at this
        exact absurd this (by show ¬ (s2.heap.objs.size + its.length + 1 : Nat) < s2.heap.objs.size; omega)
      · exact absurd (Nat.lt_of_le_of_lt (ge m e).1 (old m hm')) (Nat.lt_irrefl _)
    have hne' : its ≠ [] := fun z => by rw [z] at li; cases li
    refine ⟨_, _ :: _ :: _ :: its, _, _, H1, rfl, I3, turn_zipn D hne' (by rw [li]; exact hsz), ⟨⟨_, false, hz, .inl rfl⟩, hTI, ⟨_, hTO, by rw [List.length_map]⟩, it⟩, fun c hcm => ?_, q⟩
    have hle : s2.heap.objs.size ≤ c := by
      rcases List.mem_cons.mp hcm with rfl | hcm
      · exact Nat.le_trans (Nat.le_add_right _ _) (Nat.le_add_right _ _)
      · rcases List.mem_cons.mp hcm with rfl | hcm
        · exact Nat.le_add_right _ _
        · rcases List.mem_cons.mp hcm with rfl | hcm
          · exact Nat.le_trans (Nat.le_add_right _ _) (Nat.le_add_right _ _)
          · exact (ge c hcm).1
    exact I2.fpOk hle (I2.hok.fresh hle)
end Ev

namespace Ev
open PySem PySem.Spec PyProof.Rows L2
/-! ### xs[lo::step] -/
/-- the items at lo, lo + step, .. -/
def pickV (xs : List V) (lo st : Int) : List V :=
  (sliceRange (sliceBounds (some lo) none (some st) xs.length).1 (sliceBounds (some lo) none (some st) xs.length).2.1 (sliceBounds (some lo) none (some st) xs.length).2.2).filterMap (fun i => xs[i]?)
def tSl3 (K : PySem.W.Frag) (te : TE) (tl ts : TO) : TE := fun σ H Q => te σ H fun x H1 => tl σ H1 fun l H2 => ts σ H2 fun t H3 => ∃ (a : Addr) (xs : List V) (i j : Int), x = .ref a ∧ l = some i ∧ t = some j ∧ SqL K H3 a xs ∧ j ≠ 0 ∧ ∀ p, H3 p = none → Q (.ref p) (upd H3 p (.lst (pickV xs i j)))
theorem vals_pick : ∀ (is : List Nat) {xs : List V} {its : List Value}, Vals xs its → Vals (is.filterMap fun i => xs[i]?) (is.filterMap fun i => its[i]?)
  | [], _, _, _ => .nil
  | i :: is, xs, its, h => by
    have ih := vals_pick is h
    cases e : xs[i]? with
    | none =>
      have : its[i]? = none := by
        rw [List.getElem?_eq_none_iff] at e ⊢
        rw [← h.length]
        exact e
      rw [List.filterMap_cons_none e, List.filterMap_cons_none this]
      exact ih
    | some x =>
      obtain ⟨u, hu, ru⟩ := h.get e
      rw [List.filterMap_cons_some e, List.filterMap_cons_some hu]
      exact .cons ru ih
theorem pick_le (xs : List V) (lo st : Int) : (pickV xs lo st).length ≤ xs.length := by
  have := slicePick_size_le (xs.map fun _ => Value.none).toArray (some lo) none (some st)
  unfold slicePick at this
  rw [List.size_toArray, List.size_toArray, List.length_map] at this
  unfold pickV
  refine Nat.le_trans (Nat.le_of_eq ?_) this
  generalize sliceRange _ _ _ = is
  induction is with
  | nil => rfl
  | cons i is ih =>
    have e2 : ((xs.map fun _ => Value.none).toArray[i]?) = xs[i]?.map fun _ => Value.none := by
      rw [List.getElem?_toArray, List.getElem?_map]
    cases e : xs[i]? with
    | none =>
      rw [List.filterMap_cons_none e, List.filterMap_cons_none (by rw [e2, e]; rfl)]
      exact ih
    | some x =>
      rw [List.filterMap_cons_some e, List.filterMap_cons_some (by rw [e2, e]; rfl), List.length_cons, List.length_cons, ih]
section
variable {X : Cx}
theorem pe_sl3 {e lo st : Expr} {te : TE} {tl ts : TO} {p3 pos : Pos} (he : PE X e te) (hlo : PO X (some lo) tl) (hst : PO X (some st) ts) : PE X (.Subscript e (.Slice (some lo) none (some st) p3) pos) (tSl3 X.K te tl ts) := by
  refine ⟨fun pins s σ H Q I h => ?_⟩
  refine Subscript_ (thn (he.run pins s σ H _ I h) fun v s1 ⟨x, H1, I1, r1, q1⟩ => ?_)
  refine wpAny_Slice (thn (hlo.run pins s1 σ H1 _ I1 q1) fun vl s2 ⟨l, H2, I2, pl, q2⟩ => ?_)
  refine thn (po_none.run pins s2 σ H2 (fun o H3 => o = none ∧ H3 = H2) I2 ⟨rfl, rfl⟩) fun vu s3 ⟨u, H3, I3, pu, eu, e3⟩ => ?_
  subst eu e3
  refine thn (hst.run pins s3 σ H3 _ I3 q2) fun vs s4 ⟨o, H4, I4, ps, q4⟩ => ?_
  obtain ⟨a, xs, i, j, ex, el, ej, hx, j0, q⟩ := q4
  subst ex el ej
  cases r1
  have I5 : Inv X pins σ H4 { s4 with heap := s4.heap.push { cls := .type "slice", data := .fields #[vl, vu, vs] } } := I4.kept (t' := s4.toks) fun b ob q => Heap.get?_push_of_some _ q
  obtain ⟨its, r, ht, hz⟩ := I5.list hx
  have hlen := r.length
  show wpAny (model X.prog X.w) X.A (subscriptTail e (.Slice (some lo) none (some st) p3) (.ref a) (.ref s4.heap.objs.size)) (EP X pins σ Q) X.xe { s4 with heap := s4.heap.push { cls := .type "slice", data := .fields #[vl, vu, vs] } }
  refine tail_any (ops := [.ref a, .ref s4.heap.objs.size]) ht.isList.typeIs (PySem.slot_list_getitem.lookup) ?_ (by with_unfolding_all rfl)
  refine wpAny_getItem_list_slice ht.isList (Heap.IsSliceOf.new _ vl vu vs) pl pu ps (fun z => j0 (by injection z)) ?_ (by rw [List.size_toArray]; omega)
  have epick : slicePick its.toArray (some i) none (some j) = ((sliceRange (sliceBounds (some i) none (some j) xs.length).1 (sliceBounds (some i) none (some j) xs.length).2.1 (sliceBounds (some i) none (some j) xs.length).2.2).filterMap fun k => its[k]?).toArray := by
    unfold slicePick
    rw [List.size_toArray, ← hlen]
    simp only [List.getElem?_toArray]
  rw [epick]
  refine ⟨.ref _, _, I5.laid (t' := s4.toks) (o := .lst (pickV xs i j)) (fun b ob q => Heap.get?_push_of_some _ q) (Nat.le_refl _) ?_, rfl, q _ (I5.hok.fresh (Nat.le_refl _))⟩
  exact ⟨Nat.le_trans (pick_le xs i j) hz, _, 0, vals_pick _ r, Heap.get?_push_size _ rfl⟩
/-! ### o.f as one of several targets -/
def gFld (K : PySem.W.Frag) (ta : TE) (f : Str) : TG := fun y σ H Q => ta σ H fun x H1 => ∃ a C dx fs, x = .ref a ∧ H1 a = some (.ins C dx fs) ∧ Cls K C ∧ NoAttr K C f ∧ fs.length < 1000 ∧ Q σ (upd H1 a (.ins C dx (putF f y fs)))
theorem pg_fld {o : Expr} {ta : TE} {f : Str} {pos : Pos} (ho : PE X o ta) : PG X (.Attribute o f pos) (gFld X.K ta f) := by
  refine ⟨fun pins s σ H v u Q I r h => ?_⟩
  have ha : assign (.Attribute o f pos) X.env u = (do
      let ov ← holding [u] (eval o X.env)
      standAt pos.atName
      holding [u, ov] (setAttr ov f u)
      release [u, ov] []) := by
    rw [assign_Attribute]
  rw [ha]
  refine wpAny_bind (wpAny_holding (thn (ho.run pins s σ H _ I h) fun ov s1 ⟨x, H1, I1, r1, q1⟩ => ?_))
  obtain ⟨a, C, dx, fs, ex, ea, c, n, l, q⟩ := q1
  subst ex
  obtain rfl : ov = Value.ref a := r1
  refine wpAny_bind (wpAny_standAt (wpAny_bind (wpAny_holding (setattr_ok I1 ea c n l r fun s3 I3 => ?_))))
  exact wpAny_release ⟨σ, _, I3, q⟩
/-! ### min of a tuple of numbers -/
section
variable {prog : Program} {w : World} {A : Around} {E : Value → Shared → Prop} {s : Shared}
theorem min_intTuple {T : Addr} {xs : Array (Int × Tok)} {Q : Value → Shared → Prop} (hh : A.handled = none) (hT : s.heap.IsTuple T (intItems xs)) (hne : 0 < xs.size)
    (h : ∀ v h' tk, (intItems xs)[argBest (fun i j => decide (numAt xs i < numAt xs j)) (xs.size - 1)]? = some v → (∀ b o, s.heap.get? b = some o → h'.get? b = some o) → Q v { s with heap := h', toks := tk }) :
    wpAny (model prog w) A (call (.builtin "min") [.ref T]) Q E s := by
  have hlt : T < s.heap.objs.size := by obtain ⟨_, e, _⟩ := hT; exact Heap.lt_size e
  have hsz : (s.heap.push { cls := .type "tuple_iterator", data := .fields #[.ref T, .int 0 0] }).objs.size = s.heap.objs.size + 1 := Heap.size_push ..
  refine call_min_walk (wpAny_pyIter_tuple hT ?_)
  refine ⟨_, [_, T], [_], _, _, _, _, rfl, Walks.tuple (A := A.in1) hh _ T (Nat.ne_of_lt hlt) (intItems xs), ⟨⟨_, Heap.get?_push_size _ rfl, rfl, rfl⟩, hT.push _⟩, fun c hc => ?_, by simpa [intItems] using hne, CmpOf.ints_lt (numAt xs) (fun _ _ => intItems_at), fun v h' tk hP hk => ?_⟩
  · show c < (s.heap.push _).objs.size
    rw [hsz]
    rcases List.mem_cons.mp hc with rfl | hc
    · exact Nat.lt_succ_self _
    · rcases List.mem_cons.mp hc with rfl | hc
      · exact Nat.lt_succ_of_lt hlt
      · cases hc
  · refine h v h' tk (by simpa [intItems] using hP) fun c o e => hk c o (fun hm => ?_) (Heap.get?_push_of_some _ e)
    rcases List.mem_cons.mp hm with e1 | hm
    · have := Heap.lt_size e
      rw [e1] at this
      exact Nat.lt_irrefl _ this
    · cases hm
theorem min_rawT {T : Addr} {its : List Value} {ns : List Int} {Q : Value → Shared → Prop} (hh : A.handled = none) (hl : s.heap.IsTuple T its.toArray) (hi : IntsAre its ns) (hne : 0 < ns.length)
    (h : ∀ h' tk M t', (∀ b o, s.heap.get? b = some o → h'.get? b = some o) → M ∈ ns → (∀ a, a ∈ ns → M ≤ a) → Q (.int M t') { s with heap := h', toks := tk }) : wpAny (model prog w) A (call (.builtin "min") [.ref T]) Q E s := by
  obtain ⟨xs, e⟩ := hi.allInts.items
  have hn : numsOf (intItems xs).toList = ns := by rw [← e]; exact hi.numsOf
  rw [nums_intItems] at hn
  subst hn
  rw [e] at hl
  have hsz : 0 < xs.size := by simpa using hne
  refine min_intTuple hh hl hsz fun v h' tk hv hk => ?_
  obtain ⟨t, rfl⟩ := intItems_at hv
  obtain ⟨h1, h2⟩ := argBest_lt (numAt xs) (xs.size - 1)
  refine h h' tk _ t hk ?_ fun a ha => ?_
  · rw [numAt_eq]; exact PySem.getD_mem (by rw [List.length_map, Array.length_toList]; omega)
  · obtain ⟨j, hj, rfl⟩ := mem_getD ha
    rw [List.length_map, Array.length_toList] at hj
    rw [← numAt_eq]; exact h2 j (by omega)
end
def rMinT (K : PySem.W.Frag) : List V → Hp → VK → Prop := fun vs H Q => ∃ (a : Addr) (ns : List Int), vs = [V.ref a] ∧ SqT K H a (ns.map V.int) ∧ 0 < ns.length ∧ ∀ m, m ∈ ns → (∀ y, y ∈ ns → m ≤ y) → Q (.int m) H
theorem cr_minT (hc : X.calm = true) : CallR X (.builtin "min") (rMinT X.K) := by
  intro pins s σ H vs us Q I r h
  obtain ⟨a, ns, rfl, hs, hne, q⟩ := h
  obtain ⟨its, rv, hl, _⟩ := I.tuple hs
  rw [Vals.ref1 r]
  exact min_rawT (I.ok.hd hc) hl rv.ints hne fun h' tk m t' hk h1 h2 => ⟨.int _, H, I.kept hk, ⟨_, rfl⟩, q m h1 h2⟩
end
end Ev

/-! Least keys of ways between the places 0 .. 2 r, from the middle one: what a heap, a table and the settled places keep. -/
namespace Ev
open PySem PySem.Spec PyProof.Rows L2
/-- there is a way to p that adds up to the key -/
inductive Wk (r : Nat) (ms : List (Int × Int)) : Nat → Int → Prop
  | start : Wk r ms r r
  | step {p q : Nat} {b : Int} {mv : Int × Int} : Wk r ms p b → mv ∈ ms → (p : Int) + mv.1 = q → q < 2 * r + 1 → Wk r ms q (b + mv.2)
/-- moves of at most r places, what they add: a cost from 0 on times the number of places, and how far they go -/
def MvOk (r : Nat) (mv : Int × Int) : Prop := mv.1.natAbs ≤ r ∧ ∃ e : Nat, mv.2 = (e : Int) * (2 * r + 1) + mv.1
structure KI (r : Nat) (ms : List (Int × Int)) (top : Int) (S : List Nat) (c0 : Int) (D : Nat → Nat → Prop) (nn : Nat) (bs ks : List Int) : Prop where
  len : bs.length = 3 * r + 1
  wall : ∀ i, 2 * r + 1 ≤ i → i < 3 * r + 1 → bs[i]? = some (-(2 * (r : Int) + 1))
  val : ∀ p, p < 2 * r + 1 → ∃ b, bs[p]? = some b ∧ b ≤ top ∧ (b < top → 0 ≤ b ∧ b % (2 * r + 1) = p ∧ (p ∈ S ∨ b ∈ ks) ∧ Wk r ms p b)
  hp : ∀ k ∈ ks, 0 ≤ k ∧ c0 ≤ k / (2 * r + 1) ∧ k < top ∧ ∃ b, bs[(k % (2 * r + 1)).toNat]? = some b ∧ b ≤ k
  nd : ks.Nodup
  sn : S.Nodup
  sb : ∀ p ∈ S, p < 2 * r + 1 ∧ ∃ b, bs[p]? = some b ∧ b / (2 * r + 1) ≤ c0 ∧ b ∉ ks ∧ b < top
  cl : ∀ p ∈ S, ∀ j mv, ms[j]? = some mv → D p j → ∀ q : Nat, (p : Int) + mv.1 = q → q < 2 * r + 1 → ∃ b b', bs[p]? = some b ∧ bs[q]? = some b' ∧ b' ≤ b + mv.2
  le : ks.length ≤ nn
  st : ∃ b, bs[r]? = some b ∧ b ≤ r
  hd : HdI ks
section
variable {r : Nat} {ms : List (Int × Int)} {top : Int} {S : List Nat} {c0 : Int} {D : Nat → Nat → Prop} {nn : Nat} {bs ks : List Int}
theorem KI.at_s (h : KI r ms top S c0 D nn bs ks) {p : Nat} (hp : p ∈ S) {b : Int} (e : bs[p]? = some b) : 0 ≤ b ∧ b % (2 * r + 1) = p ∧ b / (2 * r + 1) ≤ c0 ∧ b ∉ ks ∧ b < top ∧ Wk r ms p b := by
  obtain ⟨hl, b1, e1, h1, h2, h3⟩ := h.sb p hp
  obtain ⟨b2, e2, _, h4⟩ := h.val p hl
  rw [e] at e1 e2
  cases e1
  cases e2
  obtain ⟨a, b, _, d⟩ := h4 h3
  exact ⟨a, b, h1, h2, h3, d⟩
theorem key_split {M k : Int} (hM : 0 < M) : k = k / M * M + k % M := by
  have := Int.mul_ediv_add_emod k M
  rw [Int.mul_comm] at this
  omega
theorem key_of {M c q : Int} (hM : 0 < M) (h0 : 0 ≤ q) (hq : q < M) : (c * M + q) / M = c ∧ (c * M + q) % M = q := by
  constructor
  · rw [Int.add_comm, Int.add_mul_ediv_right _ _ (by omega), Int.ediv_eq_zero_of_lt h0 hq]
    omega
  · rw [Int.add_comm, Int.add_mul_emod_self_right, Int.emod_eq_of_lt h0 hq]
/-- the key that a move leads to -/
theorem KI.key (h : KI r ms top S c0 D nn bs ks) {p : Nat} (hp : p ∈ S) {k : Int} (e : bs[p]? = some k) (ec : k / (2 * r + 1) = c0) {mv : Int × Int} (ok : MvOk r mv) :
    ∃ c : Int, c0 ≤ c ∧ 0 ≤ c ∧ k + mv.2 = c * (2 * r + 1) + ((p : Int) + mv.1) := by
  obtain ⟨h1, h2, h3, _⟩ := h.at_s hp e
  obtain ⟨_, w, ew⟩ := ok
  have hM : (0 : Int) < 2 * r + 1 := by omega
  have s := key_split (k := k) hM
  refine ⟨c0 + w, by omega, ?_, ?_⟩
  · have : 0 ≤ k / (2 * r + 1) := Int.ediv_nonneg h1 (by omega)
    omega
  · rw [ew, Int.add_mul, s, ec, h2]
    omega
theorem KI.fresh (h : KI r ms top S c0 D nn bs ks) {p q : Nat} {k b : Int} {mv : Int × Int} (hp : p ∈ S) (e : bs[p]? = some k) (ec : k / (2 * r + 1) = c0) (ok : MvOk r mv) (eq : (p : Int) + mv.1 = q) (hq : q < 2 * r + 1)
    (eb : bs[q]? = some b) (lt : k + mv.2 < b) : q ∉ S := fun z => by
  obtain ⟨c, hc, hc0, ek⟩ := h.key hp e ec ok
  rw [eq] at ek
  have hM : (0 : Int) < 2 * r + 1 := by omega
  obtain ⟨h1, h2, h3, _⟩ := h.at_s z eb
  have s := key_split (k := b) hM
  rw [h2] at s
  have : b / (2 * r + 1) * (2 * r + 1) ≤ c * (2 * r + 1) := Int.mul_le_mul_of_nonneg_right (by omega) (by omega)
  omega
/-- what stands where a move leads -/
theorem KI.look (h : KI r ms top S c0 D nn bs ks) {p : Nat} {mv : Int × Int} (hp : p < 2 * r + 1) (ok : MvOk r mv) :
    ∃ b, atI (bs.map V.int) ((p : Int) + mv.1) = some (.int b) ∧ (∀ q : Nat, (p : Int) + mv.1 = q → q < 2 * r + 1 → bs[q]? = some b ∧ ixN (bs.map V.int).length ((p : Int) + mv.1) = some q) ∧ ((p : Int) + mv.1 < 0 ∨ 2 * (r : Int) + 1 ≤ (p : Int) + mv.1 → b = -(2 * (r : Int) + 1)) := by
  obtain ⟨ho, _⟩ := ok
  have hl : (bs.map V.int).length = 3 * r + 1 := by rw [List.length_map, h.len]
  generalize ht : (p : Int) + mv.1 = t
  by_cases c : 0 ≤ t
  · have ix : ixN (bs.map V.int).length t = some t.toNat := by
      unfold ixN
      rw [if_pos c, if_pos (by rw [hl]; omega)]
    have lt : t.toNat < bs.length := by rw [h.len]; omega
    refine ⟨bs[t.toNat], ?_, fun q eq hq => ?_, fun o => ?_⟩
    · unfold atI
      rw [ix]
      show (bs.map V.int)[t.toNat]? = _
      rw [List.getElem?_map, List.getElem?_eq_getElem lt]
      rfl
    · have : t.toNat = q := by omega
      rw [ix]
      subst this
      exact ⟨List.getElem?_eq_getElem lt, rfl⟩
    · have w := h.wall t.toNat (by omega) (by omega)
      rw [List.getElem?_eq_getElem lt] at w
      exact Option.some.inj w
  · have ix : ixN (bs.map V.int).length t = some (t + (3 * r + 1 : Nat)).toNat := by
      unfold ixN
      rw [if_neg c, if_pos (by rw [hl]; omega), hl]
    have lt : (t + (3 * r + 1 : Nat)).toNat < bs.length := by rw [h.len]; omega
    refine ⟨bs[(t + (3 * r + 1 : Nat)).toNat], ?_, fun q eq hq => by omega, fun o => ?_⟩
    · unfold atI
      rw [ix]
      show (bs.map V.int)[(t + (3 * r + 1 : Nat)).toNat]? = _
      rw [List.getElem?_map, List.getElem?_eq_getElem lt]
      rfl
    · have w := h.wall (t + (3 * r + 1 : Nat)).toNat (by omega) (by omega)
      rw [List.getElem?_eq_getElem lt] at w
      exact Option.some.inj w
theorem KI.init (r1 : 1 ≤ r) (ht : (r : Int) < top) : KI r ms top [] 0 (fun _ _ => True) (1 + ([] : List Nat).length * ms.length) ((List.replicate (2 * r + 1) top ++ List.replicate r (-(2 * (r : Int) + 1))).set r r) [(r : Int)] := by
  have hM : (0 : Int) < 2 * r + 1 := by omega
  obtain ⟨kd, km⟩ := key_of (c := 0) hM (show (0 : Int) ≤ (r : Int) by omega) (by omega)
  rw [Int.zero_mul, Int.zero_add] at kd km
  have slf : ((List.replicate (2 * r + 1) top ++ List.replicate r (-(2 * (r : Int) + 1))).set r r)[r]? = some (r : Int) := List.getElem?_set_self (by rw [List.length_append, List.length_replicate, List.length_replicate]; omega)
  refine ⟨by rw [List.length_set, List.length_append, List.length_replicate, List.length_replicate]; omega, fun i h1 h2 => ?_, fun p hp => ?_, fun k hk => ?_, List.nodup_cons.mpr ⟨List.not_mem_nil, List.nodup_nil⟩, List.nodup_nil, (fun p hp => by cases hp), (fun p hp => by cases hp), ?_, ⟨_, slf, Int.le_refl _⟩, HdI.one _⟩
  · rw [List.getElem?_set_ne (by omega), List.getElem?_append_right (by rw [List.length_replicate]; exact h1), List.length_replicate, List.getElem?_replicate, if_pos (by omega)]
  · by_cases c : p = r
    · subst c
      exact ⟨_, slf, by omega, fun _ => ⟨by omega, km, .inr List.mem_cons_self, .start⟩⟩
    · refine ⟨top, ?_, Int.le_refl _, fun l => absurd l (by omega)⟩
      rw [List.getElem?_set_ne (by omega), List.getElem?_append_left (by rw [List.length_replicate]; exact hp), List.getElem?_replicate, if_pos hp]
  · rw [List.mem_singleton.mp hk]
    exact ⟨by omega, by omega, ht, r, by rw [km, Int.toNat_natCast]; exact slf, Int.le_refl _⟩
  · show 1 ≤ 1 + 0 * ms.length
    omega
theorem KI.push (h : KI r ms top S c0 D nn bs ks) {p q i : Nat} {k b : Int} {mv : Int × Int} {ys : List Int} (hp : p ∈ S) (e : bs[p]? = some k) (ec : k / (2 * r + 1) = c0) (ok : MvOk r mv) (hi : ms[i]? = some mv) (eq : (p : Int) + mv.1 = q) (hq : q < 2 * r + 1)
    (eb : bs[q]? = some b) (lt : k + mv.2 < b) (py : ys.Perm ((k + mv.2) :: ks)) (hy : HdI ys) : KI r ms top S c0 (fun x j => D x j ∨ (x = p ∧ j = i)) (nn + 1) (bs.set q (k + mv.2)) ys := by
  obtain ⟨c, hc, hc0, ek⟩ := h.key hp e ec ok
  rw [eq] at ek
  have hM : (0 : Int) < 2 * r + 1 := by omega
  obtain ⟨kd, km⟩ := key_of (c := c) hM (show (0 : Int) ≤ (q : Int) by omega) (by omega)
  rw [← ek] at kd km
  have mem : ∀ x, x ∈ ys ↔ x = k + mv.2 ∨ x ∈ ks := fun x => by rw [py.mem_iff, List.mem_cons]
  have nqS : q ∉ S := fun z => by
    obtain ⟨h1, h2, h3, _⟩ := h.at_s z eb
    have s := key_split (k := b) hM
    rw [h2] at s
    have : b / (2 * r + 1) * (2 * r + 1) ≤ c * (2 * r + 1) := Int.mul_le_mul_of_nonneg_right (by omega) (by omega)
    omega
  have npq : p ≠ q := fun z => nqS (z ▸ hp)
  obtain ⟨b2, eb2, hb2, _⟩ := h.val q hq
  rw [eb] at eb2
  cases eb2
  have lq : q < bs.length := (List.getElem?_eq_some_iff.mp eb).1
  have nk : k + mv.2 ∉ ks := fun z => by
    obtain ⟨_, _, _, b3, e3, l3⟩ := h.hp _ z
    rw [km, Int.toNat_natCast, eb] at e3
    cases e3
    omega
  have oth : ∀ x, x ≠ q → (bs.set q (k + mv.2))[x]? = bs[x]? := fun x hx => List.getElem?_set_ne (Ne.symm hx)
  have slf : (bs.set q (k + mv.2))[q]? = some (k + mv.2) := List.getElem?_set_self lq
  have k0 : 0 ≤ k + mv.2 := by
    rw [ek]
    have := Int.mul_nonneg hc0 (show (0 : Int) ≤ 2 * r + 1 by omega)
    omega
  refine ⟨by rw [List.length_set]; exact h.len, fun x h1 h2 => by rw [oth x (by omega)]; exact h.wall x h1 h2, fun x hx => ?_, fun x hx => ?_, ?_, h.sn, fun x hx => ?_, fun x hx j m hj dn y ey hy' => ?_, ?_, ?_, hy⟩
  · by_cases c : x = q
    · subst c
      exact ⟨_, slf, by omega, fun _ => ⟨k0, km, .inr ((mem _).mpr (.inl rfl)), (h.at_s hp e).2.2.2.2.2.step (List.mem_of_getElem? hi) eq hq⟩⟩
    · obtain ⟨b3, e3, l3, z⟩ := h.val x hx
      refine ⟨b3, by rw [oth x c]; exact e3, l3, fun l => ?_⟩
      obtain ⟨z1, z2, z3, z4⟩ := z l
      exact ⟨z1, z2, z3.imp id fun z => (mem _).mpr (.inr z), z4⟩
  · rcases (mem x).mp hx with rfl | hx
    · exact ⟨k0, by omega, by omega, _, by rw [km, Int.toNat_natCast]; exact slf, Int.le_refl _⟩
    · obtain ⟨z1, z2, z3, b3, e3, l3⟩ := h.hp x hx
      refine ⟨z1, z2, z3, ?_⟩
      by_cases c : (x % (2 * r + 1)).toNat = q
      · rw [c] at e3 ⊢
        rw [eb] at e3
        cases e3
        exact ⟨_, slf, by omega⟩
      · exact ⟨b3, by rw [oth _ c]; exact e3, l3⟩
  · exact py.nodup_iff.mpr (List.nodup_cons.mpr ⟨nk, h.nd⟩)
  · obtain ⟨z1, b3, e3, z2, z3, z4⟩ := h.sb x hx
    have nx : x ≠ q := fun z => nqS (z ▸ hx)
    refine ⟨z1, b3, by rw [oth x nx]; exact e3, z2, fun z => ?_, z4⟩
    rcases (mem _).mp z with rfl | z
    · have := (h.at_s hx e3).2.1
      rw [km] at this
      omega
    · exact z3 z
  · have nx : x ≠ q := fun z => nqS (z ▸ hx)
    rw [oth x nx]
    rcases dn with dn | ⟨rfl, rfl⟩
    · obtain ⟨b3, b4, e3, e4, l⟩ := h.cl x hx j m hj dn y ey hy'
      by_cases c : y = q
      · subst c
        rw [eb] at e4
        cases e4
        exact ⟨b3, _, e3, slf, by omega⟩
      · exact ⟨b3, b4, e3, by rw [oth y c]; exact e4, l⟩
    · rw [hi] at hj
      cases hj
      have : y = q := by omega
      subst this
      exact ⟨k, _, e, slf, Int.le_refl _⟩
  · rw [py.length_eq, List.length_cons]
    have := h.le
    omega
  · obtain ⟨b3, e3, l3⟩ := h.st
    by_cases c : r = q
    · rw [← c] at eb
      rw [eb] at e3
      cases e3
      exact ⟨_, by rw [c]; exact slf, by omega⟩
    · exact ⟨b3, by rw [oth r c]; exact e3, l3⟩
theorem KI.skip (h : KI r ms top S c0 D nn bs ks) {p i : Nat} {k : Int} {mv : Int × Int} (hp : p ∈ S) (e : bs[p]? = some k) (hi : ms[i]? = some mv) (sk : ∀ q : Nat, (p : Int) + mv.1 = q → q < 2 * r + 1 → ∃ b, bs[q]? = some b ∧ b ≤ k + mv.2) : KI r ms top S c0 (fun x j => D x j ∨ (x = p ∧ j = i)) (nn + 1) bs ks :=
  ⟨h.len, h.wall, h.val, h.hp, h.nd, h.sn, h.sb, fun x hx j m hj dn y ey hy => by
    rcases dn with dn | ⟨rfl, rfl⟩
    · exact h.cl x hx j m hj dn y ey hy
    · rw [hi] at hj
      cases hj
      obtain ⟨b, eb, l⟩ := sk y ey hy
      exact ⟨k, b, e, eb, l⟩, Nat.le_succ_of_le h.le, h.st, h.hd⟩
theorem KI.imp (h : KI r ms top S c0 D nn bs ks) {D' : Nat → Nat → Prop} {n' : Nat} (d : ∀ p j, j < ms.length → D' p j → D p j) (hn : nn ≤ n') : KI r ms top S c0 D' n' bs ks :=
  ⟨h.len, h.wall, h.val, h.hp, h.nd, h.sn, h.sb, fun x hx j m hj dn y ey hy => h.cl x hx j m hj (d x j (List.getElem?_eq_some_iff.mp hj).1 dn) y ey hy, Nat.le_trans h.le hn, h.st, h.hd⟩
/-- the popped key is the place's own -/
theorem KI.settle (h : KI r ms top S c0 (fun _ _ => True) nn bs ks) {k : Int} {ys : List Int} (py : (k :: ys).Perm ks) (hy : HdI ys) (least : ∀ y ∈ ks, k ≤ y) (e : bs[(k % (2 * r + 1)).toNat]? = some k) :
    (k % (2 * r + 1)).toNat ∉ S ∧ KI r ms top ((k % (2 * r + 1)).toNat :: S) (k / (2 * r + 1)) (fun x _ => x ≠ (k % (2 * r + 1)).toNat) (nn - 1) bs ys := by
  have hM : (0 : Int) < 2 * r + 1 := by omega
  have kin : k ∈ ks := py.mem_iff.mp List.mem_cons_self
  obtain ⟨k0, kc, kt, _⟩ := h.hp k kin
  have p0 := Int.emod_nonneg k (show (2 * (r : Int) + 1) ≠ 0 by omega)
  have p1 := Int.emod_lt_of_pos k hM
  generalize hpq : (k % (2 * r + 1)).toNat = p at e ⊢
  have pc : (p : Int) = k % (2 * r + 1) := by omega
  have sub : ∀ x, x ∈ ys → x ∈ ks := fun x hx => py.mem_iff.mp (List.mem_cons_of_mem _ hx)
  have nd := py.nodup_iff.mpr h.nd
  rw [List.nodup_cons] at nd
  have nS : p ∉ S := fun z => (h.at_s z e).2.2.2.1 kin
  refine ⟨nS, h.len, h.wall, fun x hx => ?_, fun x hx => ?_, nd.2, List.nodup_cons.mpr ⟨nS, h.sn⟩, fun x hx => ?_, fun x hx j m hj dn y ey hy' => ?_, ?_, h.st, hy⟩
  · obtain ⟨b, eb, l, z⟩ := h.val x hx
    refine ⟨b, eb, l, fun l => ?_⟩
    obtain ⟨z1, z2, z3, z4⟩ := z l
    refine ⟨z1, z2, ?_, z4⟩
    by_cases c : x = p
    · exact .inl (c ▸ List.mem_cons_self)
    · rcases z3 with z3 | z3
      · exact .inl (List.mem_cons_of_mem _ z3)
      · rcases List.mem_cons.mp (py.mem_iff.mpr z3) with rfl | z3
        · exact absurd (by omega) c
        · exact .inr z3
  · obtain ⟨z1, z2, z3⟩ := h.hp x (sub x hx)
    exact ⟨z1, Int.ediv_le_ediv hM (least x (sub x hx)), z3⟩
  · rcases List.mem_cons.mp hx with rfl | hx
    · exact ⟨by omega, k, e, Int.le_refl _, nd.1, kt⟩
    · obtain ⟨z1, b, eb, z2, z3, z4⟩ := h.sb x hx
      exact ⟨z1, b, eb, by omega, fun z => z3 (sub _ z), z4⟩
  · rcases List.mem_cons.mp hx with rfl | hx
    · exact absurd rfl dn
    · exact h.cl x hx j m hj trivial y ey hy'
  · have := py.length_eq
    rw [List.length_cons] at this
    have := h.le
    omega
/-- the popped key is an old one -/
theorem KI.drop (h : KI r ms top S c0 D nn bs ks) {k : Int} {ys : List Int} (py : (k :: ys).Perm ks) (hy : HdI ys) {b : Int} (e : bs[(k % (2 * r + 1)).toNat]? = some b) (ne : k ≠ b) : KI r ms top S c0 D nn bs ys := by
  have sub : ∀ x, x ∈ ys → x ∈ ks := fun x hx => py.mem_iff.mp (List.mem_cons_of_mem _ hx)
  have nd := py.nodup_iff.mpr h.nd
  rw [List.nodup_cons] at nd
  refine ⟨h.len, h.wall, fun x hx => ?_, fun x hx => h.hp x (sub x hx), nd.2, h.sn, fun x hx => ?_, h.cl, ?_, h.st, hy⟩
  · obtain ⟨b2, eb, l, z⟩ := h.val x hx
    refine ⟨b2, eb, l, fun l => ?_⟩
    obtain ⟨z1, z2, z3, z4⟩ := z l
    refine ⟨z1, z2, z3.imp id fun z3 => ?_, z4⟩
    rcases List.mem_cons.mp (py.mem_iff.mpr z3) with rfl | z3
    · rw [z2, Int.toNat_natCast, eb] at e
      cases e
      exact absurd rfl ne
    · exact z3
  · obtain ⟨z1, b2, eb, z2, z3, z4⟩ := h.sb x hx
    exact ⟨z1, b2, eb, z2, fun z => z3 (sub _ z), z4⟩
  · have := py.length_eq
    rw [List.length_cons] at this
    have := h.le
    omega
theorem nodup_le : ∀ (n : Nat) (S : List Nat), S.Nodup → (∀ x ∈ S, x < n) → S.length ≤ n
  | 0, S, _, h => by
    cases S with
    | nil => exact Nat.le_refl _
    | cons x _ => exact absurd (h x List.mem_cons_self) (Nat.not_lt_zero _)
  | n + 1, S, nd, h => by
    have e := nodup_le n (S.erase n) (nd.erase n) (fun x hx => by
      have h1 := (nd.mem_erase_iff).mp hx
      have := h x h1.2
      omega)
    rw [List.length_erase] at e
    split at e <;> omega
/-- the least keys: what is told of a table -/
structure Keys (r : Nat) (ms : List (Int × Int)) (top : Int) (ks : List Int) : Prop where
  len : ks.length = 2 * r + 1
  val : ∀ p, p < 2 * r + 1 → ∃ b, ks[p]? = some b ∧ b ≤ top ∧ (b < top → 0 ≤ b ∧ b % (2 * r + 1) = p ∧ Wk r ms p b)
  st : ∃ b, ks[r]? = some b ∧ b ≤ r
  cl : ∀ p q : Nat, ∀ mv ∈ ms, ∀ b, ks[p]? = some b → b < top → (p : Int) + mv.1 = q → q < 2 * r + 1 → ∃ b', ks[q]? = some b' ∧ b' ≤ b + mv.2
theorem KI.keys (h : KI r ms top S c0 (fun _ _ => True) nn bs []) : Keys r ms top (bs.take (2 * r + 1)) := by
  have at_ : ∀ p, p < 2 * r + 1 → (bs.take (2 * r + 1))[p]? = bs[p]? := fun p hp => by rw [List.getElem?_take, if_pos hp]
  refine ⟨by rw [List.length_take, h.len]; omega, fun p hp => ?_, ?_, fun p q mv hm b e lt eq hq => ?_⟩
  · obtain ⟨b, e, l, z⟩ := h.val p hp
    refine ⟨b, by rw [at_ p hp]; exact e, l, fun l => ?_⟩
    obtain ⟨z1, z2, _, z4⟩ := z l
    exact ⟨z1, z2, z4⟩
  · obtain ⟨b, e, l⟩ := h.st
    exact ⟨b, by rw [at_ r (by omega)]; exact e, l⟩
  · have hp : p < 2 * r + 1 := by
      have := (List.getElem?_eq_some_iff.mp e).1
      rw [List.length_take] at this
      omega
    rw [at_ p hp] at e
    obtain ⟨b2, e2, _, z⟩ := h.val p hp
    rw [e] at e2
    cases e2
    obtain ⟨_, _, z3, _⟩ := z lt
    rcases z3 with z3 | z3
    · obtain ⟨j, hj⟩ := List.getElem?_of_mem hm
      obtain ⟨b3, b4, e3, e4, l⟩ := h.cl p z3 j mv hj trivial q eq hq
      rw [e] at e3
      cases e3
      exact ⟨b4, by rw [at_ q hq]; exact e4, l⟩
    · cases z3
end
end Ev

/-! The least keys are the least sums: ways by steps forward and back between the places 0 .. 2 r. -/
namespace Ev
open PySem PySem.Spec PyProof.Rows L2
/-- a way from the middle place to p, its steps' worth together -/
inductive Wy (r : Nat) (us ds : List (Int × Int)) : Nat → Int → Prop
  | start : Wy r us ds r 0
  | up {p q : Nat} {x : Int} {s : Int × Int} : Wy r us ds p x → s ∈ us → (p : Int) + s.1 = q → q < 2 * r + 1 → Wy r us ds q (x + s.2)
  | down {p q : Nat} {x : Int} {s : Int × Int} : Wy r us ds p x → s ∈ ds → (p : Int) - s.1 = q → q < 2 * r + 1 → Wy r us ds q (x + s.2)
/-- the moves by which they are measured -/
def mvUp (W T M : Int) (s : Int × Int) : Int × Int := (s.1, (s.2 * W - T * s.1) * M + s.1)
def mvDn (W T M : Int) (s : Int × Int) : Int × Int := (-s.1, (s.2 * W + T * s.1) * M - s.1)
def mvs (W T M : Int) (us ds : List (Int × Int)) : List (Int × Int) := us.map (mvUp W T M) ++ ds.map (mvDn W T M)
section
variable {r : Nat} {us ds : List (Int × Int)} {W T top : Int} {ks : List Int}
theorem key_up {x t w p R M : Int} : (W * x - T * (p - R)) * M + p + ((t * W - T * w) * M + w) = (W * (x + t) - T * (p + w - R)) * M + (p + w) := by
  have : (W * x - T * (p - R)) * M + (t * W - T * w) * M = (W * (x + t) - T * (p + w - R)) * M := by
    rw [← Int.add_mul]
    congr 1
    rw [Int.mul_add, Int.mul_comm t W, Int.mul_sub, Int.mul_sub, Int.mul_add]
    omega
  omega
theorem key_dn {x t w p R M : Int} : (W * x - T * (p - R)) * M + p + ((t * W + T * w) * M - w) = (W * (x + t) - T * (p - w - R)) * M + (p - w) := by
  have : (W * x - T * (p - R)) * M + (t * W + T * w) * M = (W * (x + t) - T * (p - w - R)) * M := by
    rw [← Int.add_mul]
    congr 1
    rw [Int.mul_add, Int.mul_comm t W, Int.mul_sub, Int.mul_sub, Int.mul_sub]
    omega
  omega
theorem wk_wy {p : Nat} {b : Int} (h : Wk r (mvs W T (2 * r + 1) us ds) p b) : ∃ x, Wy r us ds p x ∧ b = (W * x - T * ((p : Int) - r)) * (2 * r + 1) + p := by
  induction h with
  | start =>
    refine ⟨0, .start, ?_⟩
    rw [Int.sub_self, Int.mul_zero, Int.mul_zero, Int.sub_zero, Int.zero_mul, Int.zero_add]
  | @step p q b mv _ hm e hq ih =>
    obtain ⟨x, hw, rfl⟩ := ih
    rcases List.mem_append.mp hm with hm | hm
    · obtain ⟨s, hs, rfl⟩ := List.mem_map.mp hm
      have e' : (p : Int) + s.1 = q := e
      refine ⟨x + s.2, hw.up hs e' hq, ?_⟩
      rw [← e']
      exact key_up
    · obtain ⟨s, hs, rfl⟩ := List.mem_map.mp hm
      have e' : (p : Int) - s.1 = q := by rw [← e]; show _ = (p : Int) + -s.1; omega
      refine ⟨x + s.2, hw.down hs e' hq, ?_⟩
      rw [← e']
      exact key_dn
theorem wy_ks (hk : Keys r (mvs W T (2 * r + 1) us ds) top ks) (all : ∀ (p : Nat) (b : Int), ks[p]? = some b → b < top) {p : Nat} {y : Int} (h : Wy r us ds p y) : ∃ b, ks[p]? = some b ∧ b ≤ (W * y - T * ((p : Int) - r)) * (2 * r + 1) + p := by
  induction h with
  | start =>
    obtain ⟨b, e, l⟩ := hk.st
    refine ⟨b, e, ?_⟩
    rw [Int.sub_self, Int.mul_zero, Int.mul_zero, Int.sub_zero, Int.zero_mul, Int.zero_add]
    exact l
  | @up p q x s _ hs e hq ih =>
    obtain ⟨b, eb, l⟩ := ih
    obtain ⟨b', eb', l'⟩ := hk.cl p q _ (List.mem_append_left _ (List.mem_map.mpr ⟨s, hs, rfl⟩)) b eb (all p b eb) e hq
    refine ⟨b', eb', ?_⟩
    have k := key_up (W := W) (T := T) (x := x) (t := s.2) (w := s.1) (p := p) (R := r) (M := 2 * r + 1)
    rw [← e, ← k]
    have l2 : b' ≤ b + ((s.2 * W - T * s.1) * (2 * (r : Int) + 1) + s.1) := l'
    omega
  | @down p q x s _ hs e hq ih =>
    obtain ⟨b, eb, l⟩ := ih
    obtain ⟨b', eb', l'⟩ := hk.cl p q _ (List.mem_append_right _ (List.mem_map.mpr ⟨s, hs, rfl⟩)) b eb (all p b eb) (by show (p : Int) + -s.1 = q; omega) hq
    refine ⟨b', eb', ?_⟩
    have k := key_dn (W := W) (T := T) (x := x) (t := s.2) (w := s.1) (p := p) (R := r) (M := 2 * r + 1)
    rw [← e, ← k]
    have l2 : b' ≤ b + ((s.2 * W + T * s.1) * (2 * (r : Int) + 1) - s.1) := l'
    omega
/-- every place is reached by steps of one day -/
theorem all_low (hk : Keys r (mvs W T (2 * r + 1) us ds) top ks) {d1 d2 : Int} (u1 : ((1 : Int), d1) ∈ us) (u2 : ((1 : Int), d2) ∈ ds) (topr : (r : Int) < top) (topm : ∀ mv ∈ mvs W T (2 * r + 1) us ds, (2 * (r : Int) + 2) * mv.2 + (2 * (r : Int) + 1) ≤ top) : ∀ (p : Nat) (b : Int), ks[p]? = some b → b < top := by
  have m1 := List.mem_append_left (ds.map (mvDn W T (2 * r + 1))) (List.mem_map.mpr ⟨_, u1, rfl⟩ : mvUp W T (2 * r + 1) (1, d1) ∈ us.map (mvUp W T (2 * r + 1)))
  have m2 := List.mem_append_right (us.map (mvUp W T (2 * r + 1))) (List.mem_map.mpr ⟨_, u2, rfl⟩ : mvDn W T (2 * r + 1) (1, d2) ∈ ds.map (mvDn W T (2 * r + 1)))
  have t1 := topm _ m1
  have t2 := topm _ m2
  have far : ∀ (c : Int) (d : Nat), d ≤ r → (2 * (r : Int) + 2) * c + (2 * (r : Int) + 1) ≤ top → (r : Int) + d * c < top := fun c d hd ht => by
    by_cases h : 0 ≤ c
    · have : (d : Int) * c ≤ (2 * (r : Int) + 2) * c := Int.mul_le_mul_of_nonneg_right (by omega) h
      omega
    · have : (d : Int) * (-c) ≥ 0 := Int.mul_nonneg (by omega) (by omega)
      rw [Int.mul_neg] at this
      omega
  have A : ∀ d : Nat, d ≤ r → ∃ b, ks[r + d]? = some b ∧ b ≤ r + d * (mvUp W T (2 * r + 1) (1, d1)).2 := by
    intro d
    induction d with
    | zero =>
      intro _
      obtain ⟨b, e, l⟩ := hk.st
      exact ⟨b, e, by rw [Int.natCast_zero, Int.zero_mul]; omega⟩
    | succ d ih =>
      intro hd
      obtain ⟨b, e, l⟩ := ih (by omega)
      have lt : b < top := by
        have := far _ d (by omega) t1
        omega
      obtain ⟨b', e', l'⟩ := hk.cl (r + d) (r + (d + 1)) _ m1 b e lt (by show ((r + d : Nat) : Int) + 1 = _; omega) (by omega)
      refine ⟨b', e', ?_⟩
      rw [Int.natCast_add, Int.natCast_one, Int.add_mul, Int.one_mul]
      omega
  have B : ∀ d : Nat, d ≤ r → ∃ b, ks[r - d]? = some b ∧ b ≤ r + d * (mvDn W T (2 * r + 1) (1, d2)).2 := by
    intro d
    induction d with
    | zero =>
      intro _
      obtain ⟨b, e, l⟩ := hk.st
      exact ⟨b, e, by rw [Int.natCast_zero, Int.zero_mul]; omega⟩
    | succ d ih =>
      intro hd
      obtain ⟨b, e, l⟩ := ih (by omega)
      have lt : b < top := by
        have := far _ d (by omega) t2
        omega
      obtain ⟨b', e', l'⟩ := hk.cl (r - d) (r - (d + 1)) _ m2 b e lt (by show ((r - d : Nat) : Int) + -1 = _; omega) (by omega)
      refine ⟨b', e', ?_⟩
      rw [Int.natCast_add, Int.natCast_one, Int.add_mul, Int.one_mul]
      omega
  intro p b e
  have hp : p < 2 * r + 1 := by
    rw [← hk.len]
    exact (List.getElem?_eq_some_iff.mp e).1
  by_cases c : r ≤ p
  · obtain ⟨b', e', l⟩ := A (p - r) (by omega)
    rw [show r + (p - r) = p by omega, e] at e'
    cases e'
    have := far _ (p - r) (by omega) t1
    omega
  · obtain ⟨b', e', l⟩ := B (r - p) (by omega)
    rw [show r - (r - p) = p by omega, e] at e'
    cases e'
    have := far _ (r - p) (by omega) t2
    omega
/-- what the keys tell: at each place the least worth of ways to it -/
theorem near_exact (hW : 0 < W) (hk : Keys r (mvs W T (2 * r + 1) us ds) top ks) {d1 d2 : Int} (u1 : ((1 : Int), d1) ∈ us) (u2 : ((1 : Int), d2) ∈ ds) (topr : (r : Int) < top) (topm : ∀ mv ∈ mvs W T (2 * r + 1) us ds, (2 * (r : Int) + 2) * mv.2 + (2 * (r : Int) + 1) ≤ top) {p : Nat} (hp : p < 2 * r + 1) :
    ∃ b x, ks[p]? = some b ∧ (b / (2 * r + 1) + T * ((p : Int) - r)) / W = x ∧ Wy r us ds p x ∧ ∀ y, Wy r us ds p y → x ≤ y := by
  have all := all_low hk u1 u2 topr topm
  obtain ⟨b, e, _, z⟩ := hk.val p hp
  obtain ⟨_, _, wk⟩ := z (all p b e)
  obtain ⟨x, wy, eb⟩ := wk_wy wk
  have hM : (0 : Int) < 2 * r + 1 := by omega
  obtain ⟨kd, _⟩ := key_of (c := W * x - T * ((p : Int) - r)) hM (show (0 : Int) ≤ (p : Int) by omega) (by omega)
  rw [← eb] at kd
  refine ⟨b, x, e, ?_, wy, fun y hy => ?_⟩
  · rw [kd, show W * x - T * ((p : Int) - r) + T * ((p : Int) - r) = W * x by omega]
    exact Int.mul_ediv_cancel_left x (by omega)
  · obtain ⟨b', e', l⟩ := wy_ks hk all hy
    rw [e] at e'
    cases e'
    rw [eb] at l
    have l2 : (W * x - T * ((p : Int) - r)) * (2 * (r : Int) + 1) ≤ (W * y - T * ((p : Int) - r)) * (2 * (r : Int) + 1) := by omega
    have l3 := Int.le_of_mul_le_mul_right l2 hM
    exact Int.le_of_mul_le_mul_left (show W * x ≤ W * y by omega) hW
end
end Ev

/-! Steps kept in a dict by their widths. -/
namespace Ev
open PySem PySem.Spec PyProof.Rows L2
def kvOf (n : Int × Int) : Key × V := (Sum.inl n.1, V.int n.2)
def putN (ns : List (Int × Int)) (w t : Int) : List (Int × Int) := if (ns.any fun n => decide (n.1 = w)) = true then ns.map (fun n => if n.1 = w then (n.1, t) else n) else ns ++ [(w, t)]
theorem any_kv {ns : List (Int × Int)} {w : Int} : ((ns.map kvOf).any fun kv => decide (kv.1 = (Sum.inl w : Key))) = ns.any fun n => decide (n.1 = w) := by
  rw [List.any_map]
  congr 1
  funext n
  show decide ((Sum.inl n.1 : Key) = Sum.inl w) = decide (n.1 = w)
  by_cases h : n.1 = w
  · rw [h]
    simp
  · rw [decide_eq_false h, decide_eq_false (fun z => h (Sum.inl.inj z))]
theorem put_kv {ns : List (Int × Int)} {w t : Int} : putK (ns.map kvOf) (Sum.inl w) (V.int t) = (putN ns w t).map kvOf := by
  unfold putK putN
  rw [any_kv]
  split
  · rw [List.map_map, List.map_map]
    congr 1
    funext n
    show (if (Sum.inl n.1 : Key) = Sum.inl w then ((Sum.inl n.1 : Key), V.int t) else kvOf n) = kvOf (if n.1 = w then (n.1, t) else n)
    by_cases h : n.1 = w
    · rw [if_pos h, if_pos (by rw [h])]
      rfl
    · rw [if_neg h, if_neg (fun z => h (Sum.inl.inj z))]
  · rw [List.map_append]
    rfl
theorem val_kv {ns : List (Int × Int)} {w : Int} : (valV (ns.map kvOf) (Sum.inl w) = none ∧ ∀ n ∈ ns, n.1 ≠ w) ∨ ∃ n ∈ ns, n.1 = w ∧ valV (ns.map kvOf) (Sum.inl w) = some (.int n.2) := by
  unfold valV
  rw [List.find?_map]
  cases e : ns.find? ((fun kv : Key × V => decide (kv.1 = Sum.inl w)) ∘ kvOf) with
  | none =>
    left
    refine ⟨rfl, fun n hn z => ?_⟩
    have := List.find?_eq_none.mp e n hn
    exact this (by show decide ((Sum.inl n.1 : Key) = Sum.inl w) = true; rw [z]; simp)
  | some n =>
    right
    have h := List.find?_some e
    refine ⟨n, List.mem_of_find?_eq_some e, ?_, rfl⟩
    have h' : decide ((Sum.inl n.1 : Key) = Sum.inl w) = true := h
    exact Sum.inl.inj (of_decide_eq_true h')
/-- what is told of a width by the strictest step and single days -/
def toldOf (W T day back w : Int) : Int := if (w / W + 1) * T + (W - w % W) * back < w / W * T + w % W * day then (w / W + 1) * T + (W - w % W) * back else w / W * T + w % W * day
structure NI (ms : List (Int × Int)) (W T day back : Int) (i : Nat) (ns : List (Int × Int)) : Prop where
  a : ∀ n ∈ ns, n ∈ ms
  b : ∃ n ∈ ns, n.1 = 1 ∧ n.2 ≤ day
  c : (W, T) ∈ ns
  d : ∀ j m, j < i → ms[j]? = some m → (∃ n ∈ ns, n.1 = m.1 ∧ n.2 ≤ m.2) ∨ toldOf W T day back m.1 ≤ m.2
  u : ∀ n ∈ ns, ∀ n' ∈ ns, n.1 = n'.1 → n = n'
  l : ns.length ≤ i + 2
section
variable {ms ns : List (Int × Int)} {W T day back : Int} {i : Nat}
theorem mem_putN {n : Int × Int} {w t : Int} (h : n ∈ putN ns w t) : n = (w, t) ∨ (n ∈ ns ∧ n.1 ≠ w) := by
  unfold putN at h
  split at h
  · obtain ⟨n', h1, h2⟩ := List.mem_map.mp h
    by_cases c : n'.1 = w
    · rw [if_pos c] at h2
      left
      rw [← h2, c]
    · rw [if_neg c] at h2
      right
      rw [← h2]
      exact ⟨h1, c⟩
  · rename_i hn
    rcases List.mem_append.mp h with h | h
    · right
      refine ⟨h, fun z => hn ?_⟩
      exact List.any_eq_true.mpr ⟨n, h, by rw [z]; simp⟩
    · left
      exact List.mem_singleton.mp h
theorem putN_new {w t : Int} : (w, t) ∈ putN ns w t := by
  unfold putN
  split
  · rename_i h
    obtain ⟨n, hn, e⟩ := List.any_eq_true.mp h
    have e' : n.1 = w := of_decide_eq_true e
    exact List.mem_map.mpr ⟨n, hn, by rw [if_pos e', e']⟩
  · exact List.mem_append_right _ List.mem_cons_self
theorem putN_old {n : Int × Int} {w t : Int} (h : n ∈ ns) (ne : n.1 ≠ w) : n ∈ putN ns w t := by
  unfold putN
  split
  · exact List.mem_map.mpr ⟨n, h, by rw [if_neg ne]⟩
  · exact List.mem_append_left _ h
theorem putN_len {w t : Int} : (putN ns w t).length ≤ ns.length + 1 := by
  unfold putN
  split
  · rw [List.length_map]
    omega
  · rw [List.length_append, List.length_singleton]
    omega
theorem NI.put (h : NI ms W T day back i ns) {m : Int × Int} (hm : ms[i]? = some m) (hW : 0 < W) (tt : T * m.1 ≤ m.2 * W) (lt : ∀ n ∈ ns, n.1 = m.1 → m.2 < n.2) : NI ms W T day back (i + 1) (putN ns m.1 m.2) := by
  have nW : W ≠ m.1 := fun z => by
    have := lt _ h.c z
    rw [← z] at tt
    have := Int.le_of_mul_le_mul_right tt hW
    have e : ((W, T) : Int × Int).2 = T := rfl
    omega
  refine ⟨fun n hn => ?_, ?_, putN_old h.c nW, fun j x hj e => ?_, fun n hn n' hn' e => ?_, Nat.le_trans putN_len (by have := h.l; omega)⟩
  · rcases mem_putN hn with rfl | ⟨hn, _⟩
    · exact List.mem_of_getElem? hm
    · exact h.a n hn
  · obtain ⟨n, hn, n1, nd⟩ := h.b
    by_cases c : n.1 = m.1
    · exact ⟨_, putN_new, by rw [← n1, c], by have := lt n hn c; show m.2 ≤ day; omega⟩
    · exact ⟨n, putN_old hn c, n1, nd⟩
  · have old : ∀ n ∈ ns, ∃ n' ∈ putN ns m.1 m.2, n'.1 = n.1 ∧ n'.2 ≤ n.2 := fun n hn => by
      by_cases c : n.1 = m.1
      · exact ⟨_, putN_new, c.symm, by have := lt n hn c; show m.2 ≤ n.2; omega⟩
      · exact ⟨n, putN_old hn c, rfl, Int.le_refl _⟩
    rcases Nat.lt_succ_iff_lt_or_eq.mp hj with hj | rfl
    · rcases h.d j x hj e with ⟨n, hn, e1, l1⟩ | z
      · obtain ⟨n', hn', e2, l2⟩ := old n hn
        exact .inl ⟨n', hn', e2.trans e1, Int.le_trans l2 l1⟩
      · exact .inr z
    · rw [hm] at e
      cases e
      exact .inl ⟨_, putN_new, rfl, Int.le_refl _⟩
  · rcases mem_putN hn with rfl | ⟨h1, h2⟩
    · rcases mem_putN hn' with rfl | ⟨h3, h4⟩
      · rfl
      · exact absurd e.symm h4
    · rcases mem_putN hn' with rfl | ⟨h3, h4⟩
      · exact absurd e h2
      · exact h.u n h1 n' h3 e
theorem NI.skip (h : NI ms W T day back i ns) {m : Int × Int} (hm : ms[i]? = some m) (z : (∃ n ∈ ns, n.1 = m.1 ∧ n.2 ≤ m.2) ∨ toldOf W T day back m.1 ≤ m.2) : NI ms W T day back (i + 1) ns :=
  ⟨h.a, h.b, h.c, fun j x hj e => by
    rcases Nat.lt_succ_iff_lt_or_eq.mp hj with hj | rfl
    · exact h.d j x hj e
    · rw [hm] at e
      cases e
      exact z, h.u, by have := h.l; omega⟩
theorem NI.init (h1 : ((1 : Int), day) ∈ ms) (h2 : (W, T) ∈ ms) (hW : 0 < W) (tt : T * 1 ≤ day * W) : NI ms W T day back 0 (putN [(1, day)] W T) := by
  refine ⟨fun n hn => ?_, ?_, putN_new, fun j m hj => absurd hj (Nat.not_lt_zero _), fun n hn n' hn' e => ?_, putN_len⟩
  · rcases mem_putN hn with rfl | ⟨hn, _⟩
    · exact h2
    · rw [List.mem_singleton.mp hn]
      exact h1
  · by_cases c : (1 : Int) = W
    · subst c
      exact ⟨_, putN_new, rfl, by show T ≤ day; omega⟩
    · exact ⟨_, putN_old List.mem_cons_self c, rfl, Int.le_refl _⟩
  · rcases mem_putN hn with rfl | ⟨h1, h2⟩
    · rcases mem_putN hn' with rfl | ⟨h3, h4⟩
      · rfl
      · exact absurd e.symm h4
    · rcases mem_putN hn' with rfl | ⟨h3, h4⟩
      · exact absurd e h2
      · rw [List.mem_singleton.mp h1, List.mem_singleton.mp h3]
end
end Ev

/-! Ways without bounds, and by which steps: an order that stays near the middle; steps that others tell. -/
namespace Ev
open PySem PySem.Spec PyProof.Rows L2
def tw (l : List (Int × Int)) : Int := (l.map Prod.fst).sum
def tv (l : List (Int × Int)) : Int := (l.map Prod.snd).sum
/-- steps forward and back that come to n days and are worth x -/
def Wg (us ds : List (Int × Int)) (n x : Int) : Prop := ∃ U D : List (Int × Int), (∀ s ∈ U, s ∈ us) ∧ (∀ s ∈ D, s ∈ ds) ∧ tw U - tw D = n ∧ tv U + tv D = x
section
variable {us ds : List (Int × Int)} {r : Nat}
theorem tw_cons {s : Int × Int} {l : List (Int × Int)} : tw (s :: l) = s.1 + tw l := by unfold tw; rw [List.map_cons, List.sum_cons]
theorem tv_cons {s : Int × Int} {l : List (Int × Int)} : tv (s :: l) = s.2 + tv l := by unfold tv; rw [List.map_cons, List.sum_cons]
theorem tw_append {l m : List (Int × Int)} : tw (l ++ m) = tw l + tw m := by unfold tw; rw [List.map_append, List.sum_append]
theorem tv_append {l m : List (Int × Int)} : tv (l ++ m) = tv l + tv m := by unfold tv; rw [List.map_append, List.sum_append]
theorem tw_nil : tw [] = 0 := rfl
theorem tv_nil : tv [] = 0 := rfl
theorem tw_rep {k : Nat} {s : Int × Int} : tw (List.replicate k s) = k * s.1 := by
  induction k with
  | zero => rw [List.replicate_zero, tw_nil, Int.natCast_zero, Int.zero_mul]
  | succ k ih => rw [List.replicate_succ, tw_cons, ih, Int.natCast_add, Int.add_mul, Int.natCast_one, Int.one_mul]; omega
theorem tv_rep {k : Nat} {s : Int × Int} : tv (List.replicate k s) = k * s.2 := by
  induction k with
  | zero => rw [List.replicate_zero, tv_nil, Int.natCast_zero, Int.zero_mul]
  | succ k ih => rw [List.replicate_succ, tv_cons, ih, Int.natCast_add, Int.add_mul, Int.natCast_one, Int.one_mul]; omega
theorem Wg.zero : Wg us ds 0 0 := ⟨[], [], fun s h => (by cases h), fun s h => (by cases h), rfl, rfl⟩
theorem Wg.add {n x m y : Int} (h : Wg us ds n x) (g : Wg us ds m y) : Wg us ds (n + m) (x + y) := by
  obtain ⟨U, D, h1, h2, h3, h4⟩ := h
  obtain ⟨U', D', g1, g2, g3, g4⟩ := g
  refine ⟨U ++ U', D ++ D', fun s hs => (List.mem_append.mp hs).elim (h1 s) (g1 s), fun s hs => (List.mem_append.mp hs).elim (h2 s) (g2 s), ?_, ?_⟩
  · rw [tw_append, tw_append]
    omega
  · rw [tv_append, tv_append]
    omega
theorem Wg.fwd {s : Int × Int} (h : s ∈ us) : Wg us ds s.1 s.2 := ⟨[s], [], fun t ht => List.mem_singleton.mp ht ▸ h, fun t ht => (by cases ht), by rw [tw_cons, tw_nil]; omega, by rw [tv_cons, tv_nil]; omega⟩
theorem Wg.bwd {s : Int × Int} (h : s ∈ ds) : Wg us ds (-s.1) s.2 := ⟨[], [s], fun t ht => (by cases ht), fun t ht => List.mem_singleton.mp ht ▸ h, by rw [tw_cons, tw_nil]; omega, by rw [tv_cons, tv_nil]; omega⟩
theorem wy_wg {p : Nat} {x : Int} (h : Wy r us ds p x) : Wg us ds ((p : Int) - r) x := by
  induction h with
  | start => rw [Int.sub_self]; exact Wg.zero
  | @up p q x s _ hs e hq ih =>
    have := ih.add (Wg.fwd hs)
    rw [show (p : Int) - r + s.1 = q - r by omega] at this
    exact this
  | @down p q x s _ hs e hq ih =>
    have := ih.add (Wg.bwd hs)
    rw [show (p : Int) - r + -s.1 = q - r by omega] at this
    exact this
/-- the steps put into an order that stays near the middle -/
theorem order (nu : ∀ s ∈ us, 1 ≤ s.1 ∧ s.1 ≤ r) (nd : ∀ s ∈ ds, 1 ≤ s.1 ∧ s.1 ≤ r) : ∀ (k : Nat) (U D : List (Int × Int)), U.length + D.length = k → (∀ s ∈ U, s ∈ us) → (∀ s ∈ D, s ∈ ds) → ∀ (p : Nat) (x : Int), p < 2 * r + 1 → Wy r us ds p x →
    ∀ q : Nat, (p : Int) + tw U - tw D = q → q < 2 * r + 1 → Wy r us ds q (x + tv U + tv D) := by
  have pos : ∀ {us : List (Int × Int)}, (∀ s ∈ us, 1 ≤ s.1 ∧ s.1 ≤ (r : Int)) → ∀ U : List (Int × Int), (∀ s ∈ U, s ∈ us) → 0 ≤ tw U := by
    intro us nu U
    induction U with
    | nil => intro _; exact Int.le_refl _
    | cons s U ih =>
      intro h
      have := ih (fun t ht => h t (List.mem_cons_of_mem _ ht))
      have := nu s (h s List.mem_cons_self)
      rw [tw_cons]
      omega
  intro k
  induction k with
  | zero =>
    intro U D hk _ _ p x hp hw q e hq
    have h1 : U = [] := List.length_eq_zero_iff.mp (by omega)
    have h2 : D = [] := List.length_eq_zero_iff.mp (by omega)
    subst h1
    subst h2
    rw [tw_nil] at e
    rw [tv_nil, Int.add_zero, Int.add_zero]
    have : p = q := by omega
    exact this ▸ hw
  | succ k ih =>
    intro U D hk hU hD p x hp hw q e hq
    have fwd : ∀ s U', U = s :: U' → (p : Int) + s.1 ≤ 2 * r → Wy r us ds q (x + tv U + tv D) := fun s U' eU le => by
      subst eU
      have ns := nu s (hU s List.mem_cons_self)
      obtain ⟨p', hp'⟩ : ∃ p' : Nat, (p : Int) + s.1 = p' := ⟨((p : Int) + s.1).toNat, by omega⟩
      have := ih U' D (by rw [List.length_cons] at hk; omega) (fun t ht => hU t (List.mem_cons_of_mem _ ht)) hD p' (x + s.2) (by omega) (hw.up (hU s List.mem_cons_self) hp' (by omega)) q (by rw [tw_cons] at e; omega) hq
      rw [tv_cons, show x + (s.2 + tv U') + tv D = x + s.2 + tv U' + tv D by omega]
      exact this
    have bwd : ∀ s D', D = s :: D' → 0 ≤ (p : Int) - s.1 → Wy r us ds q (x + tv U + tv D) := fun s D' eD le => by
      subst eD
      have ns := nd s (hD s List.mem_cons_self)
      obtain ⟨p', hp'⟩ : ∃ p' : Nat, (p : Int) - s.1 = p' := ⟨((p : Int) - s.1).toNat, by omega⟩
      have := ih U D' (by rw [List.length_cons] at hk; omega) hU (fun t ht => hD t (List.mem_cons_of_mem _ ht)) p' (x + s.2) (by omega) (hw.down (hD s List.mem_cons_self) hp' (by omega)) q (by rw [tw_cons] at e; omega) hq
      rw [tv_cons, show x + tv U + (s.2 + tv D') = x + s.2 + tv U + tv D' by omega]
      exact this
    by_cases c : p ≤ r
    · cases U with
      | cons s U' =>
        have ns := nu s (hU s List.mem_cons_self)
        exact fwd s U' rfl (by omega)
      | nil =>
        cases D with
        | nil => simp at hk
        | cons s D' =>
          have g := pos nd D' (fun t ht => hD t (List.mem_cons_of_mem _ ht))
          rw [tw_nil, tw_cons] at e
          exact bwd s D' rfl (by omega)
    · cases D with
      | cons s D' =>
        have ns := nd s (hD s List.mem_cons_self)
        exact bwd s D' rfl (by omega)
      | nil =>
        cases U with
        | nil => simp at hk
        | cons s U' =>
          have g := pos nu U' (fun t ht => hU t (List.mem_cons_of_mem _ ht))
          rw [tw_nil, tw_cons] at e
          exact fwd s U' rfl (by omega)
theorem wg_wy (nu : ∀ s ∈ us, 1 ≤ s.1 ∧ s.1 ≤ r) (nd : ∀ s ∈ ds, 1 ≤ s.1 ∧ s.1 ≤ r) {n x : Int} (h : Wg us ds n x) {q : Nat} (e : (r : Int) + n = q) (hq : q < 2 * r + 1) : Wy r us ds q x := by
  obtain ⟨U, D, h1, h2, h3, h4⟩ := h
  have := order nu nd _ U D rfl h1 h2 r 0 (by omega) .start q (by omega) hq
  rw [show (0 : Int) + tv U + tv D = x by omega] at this
  exact this
/-- ways by steps that others tell -/
theorem wg_kept {us' ds' : List (Int × Int)} (hu : ∀ s ∈ us', ∃ x, x ≤ s.2 ∧ Wg us ds s.1 x) (hd : ∀ s ∈ ds', ∃ x, x ≤ s.2 ∧ Wg us ds (-s.1) x) {n x : Int} (h : Wg us' ds' n x) : ∃ y, y ≤ x ∧ Wg us ds n y := by
  obtain ⟨U, D, h1, h2, rfl, rfl⟩ := h
  have A : ∀ U : List (Int × Int), (∀ s ∈ U, s ∈ us') → ∃ y, y ≤ tv U ∧ Wg us ds (tw U) y := by
    intro U
    induction U with
    | nil => intro _; exact ⟨0, Int.le_refl _, Wg.zero⟩
    | cons s U ih =>
      intro h
      obtain ⟨y, l, w⟩ := ih (fun t ht => h t (List.mem_cons_of_mem _ ht))
      obtain ⟨z, l2, w2⟩ := hu s (h s List.mem_cons_self)
      exact ⟨z + y, by rw [tv_cons]; omega, by rw [tw_cons]; exact w2.add w⟩
  have B : ∀ D : List (Int × Int), (∀ s ∈ D, s ∈ ds') → ∃ y, y ≤ tv D ∧ Wg us ds (-(tw D)) y := by
    intro D
    induction D with
    | nil => intro _; exact ⟨0, Int.le_refl _, Wg.zero⟩
    | cons s D ih =>
      intro h
      obtain ⟨y, l, w⟩ := ih (fun t ht => h t (List.mem_cons_of_mem _ ht))
      obtain ⟨z, l2, w2⟩ := hd s (h s List.mem_cons_self)
      exact ⟨z + y, by rw [tv_cons]; omega, by rw [tw_cons, show -(s.1 + tw D) = -s.1 + -(tw D) by omega]; exact w2.add w⟩
  obtain ⟨y, l, w⟩ := A U h1
  obtain ⟨z, l2, w2⟩ := B D h2
  exact ⟨y + z, by omega, by rw [show tw U - tw D = tw U + -(tw D) by omega]; exact w.add w2⟩
theorem Wg.swap {n x : Int} (h : Wg us ds n x) : Wg ds us (-n) x := by
  obtain ⟨U, D, h1, h2, h3, h4⟩ := h
  exact ⟨D, U, h2, h1, by omega, by omega⟩
theorem Wg.rep {s : Int × Int} (h : s ∈ us) (k : Nat) : Wg us ds (k * s.1) (k * s.2) := ⟨List.replicate k s, [], fun t ht => (List.eq_of_mem_replicate ht) ▸ h, fun t ht => (by cases ht), by rw [tw_rep, tw_nil]; omega, by rw [tv_rep, tv_nil]; omega⟩
/-- what needed_steps leaves tells all steps: a step back of a single day on the other side -/
theorem NI.tells {ms ns : List (Int × Int)} {W T day back b : Int} {ds : List (Int × Int)} (h : NI ms W T day back ms.length ns) (hW : 0 < W) (hb : ((1 : Int), b) ∈ ds) (lb : b ≤ back) (pos : ∀ m ∈ ms, 0 ≤ m.1) : ∀ m ∈ ms, ∃ x, x ≤ m.2 ∧ Wg ns ds m.1 x := by
  intro m hm
  obtain ⟨j, hj⟩ := List.getElem?_of_mem hm
  rcases h.d j m (List.getElem?_eq_some_iff.mp hj).1 hj with ⟨n, hn, n1, n2⟩ | told
  · exact ⟨n.2, n2, n1 ▸ Wg.fwd hn⟩
  · obtain ⟨n, hn, n1, n2⟩ := h.b
    have p := pos m hm
    have q0 : 0 ≤ m.1 / W := Int.ediv_nonneg p (by omega)
    have r0 : 0 ≤ m.1 % W := Int.emod_nonneg _ (by omega)
    have r1 : m.1 % W < W := Int.emod_lt_of_pos _ hW
    have e : m.1 / W * W + m.1 % W = m.1 := by
      have := Int.mul_ediv_add_emod m.1 W
      rw [Int.mul_comm] at this
      omega
    obtain ⟨k, hk⟩ : ∃ k : Nat, m.1 / W = k := ⟨(m.1 / W).toNat, by omega⟩
    obtain ⟨t, ht⟩ : ∃ t : Nat, m.1 % W = t := ⟨(m.1 % W).toNat, by omega⟩
    unfold toldOf at told
    rw [hk, ht] at told e
    split at told
    · obtain ⟨d, hd⟩ : ∃ d : Nat, W - t = d := ⟨(W - t).toNat, by omega⟩
      have w1 := Wg.rep (ds := ds) h.c (k + 1)
      have w2 := (Wg.rep (us := ds) (ds := ns) hb d).swap
      have w3 := w1.add w2
      refine ⟨_, ?_, (show ((k + 1 : Nat) : Int) * (W, T).1 + -((d : Int) * ((1 : Int), b).1) = m.1 from ?_) ▸ w3⟩
      · show ((k + 1 : Nat) : Int) * T + (d : Int) * b ≤ m.2
        have : (d : Int) * b ≤ d * back := Int.mul_le_mul_of_nonneg_left lb (by omega)
        rw [hd] at told
        rw [Int.natCast_add, Int.natCast_one]
        omega
      · show ((k + 1 : Nat) : Int) * W + -((d : Int) * 1) = m.1
        rw [Int.natCast_add, Int.natCast_one, Int.add_mul, Int.one_mul, Int.mul_one]
        omega
    · have w1 := Wg.rep (ds := ds) h.c k
      have w2 := Wg.rep (ds := ds) hn t
      have w3 := w1.add w2
      refine ⟨_, ?_, (show (k : Int) * (W, T).1 + (t : Int) * n.1 = m.1 from ?_) ▸ w3⟩
      · show (k : Int) * T + (t : Int) * n.2 ≤ m.2
        have : (t : Int) * n.2 ≤ t * day := Int.mul_le_mul_of_nonneg_left n2 (by omega)
        omega
      · show (k : Int) * W + (t : Int) * n.1 = m.1
        rw [n1, Int.mul_one]
        omega
end
end Ev

/-! Far ways: near the middle first, then forward alone. -/
namespace Ev
open PySem PySem.Spec PyProof.Rows L2
section
variable {us ds : List (Int × Int)} {r : Nat}
theorem tw_pos {us : List (Int × Int)} (nu : ∀ s ∈ us, 1 ≤ s.1 ∧ s.1 ≤ (r : Int)) : ∀ U : List (Int × Int), (∀ s ∈ U, s ∈ us) → (U.length : Int) ≤ tw U := by
  intro U
  induction U with
  | nil => intro _; exact Int.le_refl _
  | cons s U ih =>
    intro h
    have := ih (fun t ht => h t (List.mem_cons_of_mem _ ht))
    have := nu s (h s List.mem_cons_self)
    rw [tw_cons, List.length_cons]
    omega
theorem split_at (nu : ∀ s ∈ us, 1 ≤ s.1 ∧ s.1 ≤ r) (nd : ∀ s ∈ ds, 1 ≤ s.1 ∧ s.1 ≤ r) : ∀ (k : Nat) (U D : List (Int × Int)), U.length + D.length = k → (∀ s ∈ U, s ∈ us) → (∀ s ∈ D, s ∈ ds) → ∀ (p : Nat) (x : Int), p < 2 * r + 1 → Wy r us ds p x → 0 ≤ (p : Int) - r + tw U - tw D →
    ∃ (q : Nat) (y : Int) (V : List (Int × Int)), r ≤ q ∧ q < 2 * r + 1 ∧ Wy r us ds q y ∧ (∀ s ∈ V, s ∈ us) ∧ (q : Int) + tw V = (p : Int) + tw U - tw D ∧ y + tv V = x + tv U + tv D := by
  intro k
  induction k with
  | zero =>
    intro U D hk _ _ p x hp hw h0
    have h1 : U = [] := List.length_eq_zero_iff.mp (by omega)
    have h2 : D = [] := List.length_eq_zero_iff.mp (by omega)
    subst h1
    subst h2
    rw [tw_nil] at h0
    refine ⟨p, x, [], by omega, hp, hw, fun s h => (by cases h), ?_, ?_⟩
    · rw [tw_nil]
      omega
    · rw [tv_nil]
      omega
  | succ k ih =>
    intro U D hk hU hD p x hp hw h0
    by_cases c : p ≤ r
    · cases U with
      | cons s U' =>
        have ns := nu s (hU s List.mem_cons_self)
        obtain ⟨p', hp'⟩ : ∃ p' : Nat, (p : Int) + s.1 = p' := ⟨((p : Int) + s.1).toNat, by omega⟩
        rw [tw_cons] at h0
        obtain ⟨q, y, V, a1, a2, a3, a4, a5, a6⟩ := ih U' D (by rw [List.length_cons] at hk; omega) (fun t ht => hU t (List.mem_cons_of_mem _ ht)) hD p' (x + s.2) (by omega) (hw.up (hU s List.mem_cons_self) hp' (by omega)) (by omega)
        exact ⟨q, y, V, a1, a2, a3, a4, by rw [tw_cons]; omega, by rw [tv_cons]; omega⟩
      | nil =>
        have g := tw_pos nd D hD
        rw [tw_nil] at h0
        have l0 : D = [] := List.length_eq_zero_iff.mp (by omega)
        subst l0
        simp at hk
    · cases D with
      | cons s D' =>
        have ns := nd s (hD s List.mem_cons_self)
        obtain ⟨p', hp'⟩ : ∃ p' : Nat, (p : Int) - s.1 = p' := ⟨((p : Int) - s.1).toNat, by omega⟩
        rw [tw_cons] at h0
        obtain ⟨q, y, V, a1, a2, a3, a4, a5, a6⟩ := ih U D' (by rw [List.length_cons] at hk; omega) hU (fun t ht => hD t (List.mem_cons_of_mem _ ht)) p' (x + s.2) (by omega) (hw.down (hD s List.mem_cons_self) hp' (by omega)) (by omega)
        exact ⟨q, y, V, a1, a2, a3, a4, by rw [tw_cons]; omega, by rw [tv_cons]; omega⟩
      | nil =>
        refine ⟨p, x, U, by omega, hp, hw, hU, ?_, ?_⟩
        · rw [tw_nil]
          omega
        · rw [tv_nil]
          omega
/-- a way to n days, from 0 on: near the middle first, to some of 0 to r days, then forward alone -/
theorem far_split (nu : ∀ s ∈ us, 1 ≤ s.1 ∧ s.1 ≤ r) (nd : ∀ s ∈ ds, 1 ≤ s.1 ∧ s.1 ≤ r) {n x : Int} (h : Wg us ds n x) (hn : 0 ≤ n) : ∃ (p : Nat) (y : Int) (V : List (Int × Int)), p ≤ r ∧ Wg us ds p y ∧ (∀ s ∈ V, s ∈ us) ∧ (p : Int) + tw V = n ∧ y + tv V = x := by
  obtain ⟨U, D, h1, h2, h3, h4⟩ := h
  obtain ⟨q, y, V, a1, a2, a3, a4, a5, a6⟩ := split_at nu nd _ U D rfl h1 h2 r 0 (by omega) .start (by omega)
  have w := wy_wg a3
  refine ⟨q - r, y, V, by omega, ?_, a4, by omega, by omega⟩
  rw [show ((q - r : Nat) : Int) = (q : Int) - r by omega]
  exact w
/-- the least worth of ways to n days -/
def Least (us ds : List (Int × Int)) (n x : Int) : Prop := Wg us ds n x ∧ ∀ y, Wg us ds n y → x ≤ y
/-- beyond r days a least way ends in a step forward -/
theorem ends_fwd (nu : ∀ s ∈ us, 1 ≤ s.1 ∧ s.1 ≤ r) (nd : ∀ s ∈ ds, 1 ≤ s.1 ∧ s.1 ≤ r) {n x : Int} (h : Wg us ds n x) (hn : r < n) : ∃ s ∈ us, Wg us ds (n - s.1) (x - s.2) := by
  obtain ⟨p, y, V, a1, a2, a3, a4, a5⟩ := far_split nu nd h (by omega)
  cases V with
  | nil =>
    rw [tw_nil] at a4
    omega
  | cons s V =>
    have hs := a3 s List.mem_cons_self
    have rest : Wg us ds (tw V) (tv V) := ⟨V, [], fun t ht => a3 t (List.mem_cons_of_mem _ ht), fun t ht => (by cases ht), by rw [tw_nil]; omega, by rw [tv_nil]; omega⟩
    have w := a2.add rest
    rw [tw_cons] at a4
    rw [tv_cons] at a5
    exact ⟨s, hs, by rw [show n - s.1 = p + tw V by omega, show x - s.2 = y + tv V by omega]; exact w⟩
/-- the excess over the strictest step is never below 0 -/
theorem excess {W T : Int} (hW : 0 < W) (hu : ∀ s ∈ us, T * s.1 ≤ s.2 * W) (hd : ∀ s ∈ ds, 0 ≤ s.2 * W + T * s.1) {n x : Int} (h : Wg us ds n x) : T * n ≤ x * W := by
  obtain ⟨U, D, h1, h2, rfl, rfl⟩ := h
  have A : ∀ U : List (Int × Int), (∀ s ∈ U, s ∈ us) → T * tw U ≤ tv U * W := by
    intro U
    induction U with
    | nil => intro _; rw [tw_nil, tv_nil]; omega
    | cons s U ih =>
      intro h
      have a := ih (fun t ht => h t (List.mem_cons_of_mem _ ht))
      have b := hu s (h s List.mem_cons_self)
      rw [tw_cons, tv_cons, Int.mul_add, Int.add_mul]
      omega
  have B : ∀ D : List (Int × Int), (∀ s ∈ D, s ∈ ds) → 0 ≤ tv D * W + T * tw D := by
    intro D
    induction D with
    | nil => intro _; rw [tw_nil, tv_nil]; omega
    | cons s D ih =>
      intro h
      have a := ih (fun t ht => h t (List.mem_cons_of_mem _ ht))
      have b := hd s (h s List.mem_cons_self)
      rw [tw_cons, tv_cons, Int.mul_add, Int.add_mul]
      omega
  have a := A U h1
  have b := B D h2
  rw [Int.mul_sub, Int.add_mul]
  omega
/-- once a way of a rest is the least over all of that rest, whole strictest steps more are the least, too -/
theorem far_least {W T : Int} (hW : 0 < W) (hs : (W, T) ∈ us) {n x : Int} (h : Wg us ds n x) (k : Nat) : Wg us ds (n + k * W) (x + k * T) := h.add (Wg.rep hs k)
end
end Ev

/-! Which step a least far way may end in. -/
namespace Ev
open PySem PySem.Spec PyProof.Rows L2
theorem pigeon (W : Nat) (f : Nat → Nat) (h : ∀ i, i ≤ W → f i < W) : ∃ i j, i < j ∧ j ≤ W ∧ f i = f j := by
  refine Classical.byContradiction fun no => ?_
  have nd : ((List.range (W + 1)).map f).Nodup := by
    refine List.pairwise_iff_getElem.mpr fun i j hi hj hij e => no ⟨i, j, hij, ?_, ?_⟩
    · rw [List.length_map, List.length_range] at hj
      omega
    · rw [List.getElem_map, List.getElem_map, List.getElem_range, List.getElem_range] at e
      exact e
  have := nodup_le W _ nd fun x hx => by
    obtain ⟨i, hi, rfl⟩ := List.mem_map.mp hx
    exact h i (by have := List.mem_range.mp hi; omega)
  rw [List.length_map, List.length_range] at this
  omega
section
variable {us ds : List (Int × Int)} {r : Nat}
theorem least_add {n m x y : Int} (h : Least us ds (n + m) (x + y)) (a : Wg us ds n x) (b : Wg us ds m y) : Least us ds n x ∧ Least us ds m y :=
  ⟨⟨a, fun z hz => by have := h.2 _ (hz.add b); omega⟩, ⟨b, fun z hz => by have := h.2 _ (a.add hz); omega⟩⟩
/-- beyond r days: the last step is worth what its days have at most, and so is what is ahead of it -/
theorem least_ends (nu : ∀ s ∈ us, 1 ≤ s.1 ∧ s.1 ≤ r) (nd : ∀ s ∈ ds, 1 ≤ s.1 ∧ s.1 ≤ r) {n x : Int} (h : Least us ds n x) (hn : r < n) : ∃ s ∈ us, Least us ds s.1 s.2 ∧ Least us ds (n - s.1) (x - s.2) := by
  obtain ⟨s, hs, w⟩ := ends_fwd nu nd h.1 hn
  have e : Least us ds (s.1 + (n - s.1)) (s.2 + (x - s.2)) := by
    rw [show s.1 + (n - s.1) = n by omega, show s.2 + (x - s.2) = x by omega]
    exact h
  obtain ⟨a, b⟩ := least_add e (Wg.fwd hs) w
  exact ⟨s, hs, a, b⟩
theorem wg_less {U D : List (Int × Int)} (h1 : ∀ s ∈ U, s ∈ us) (h2 : ∀ s ∈ D, s ∈ ds) {s : Int × Int} (hs : s ∈ U) : Wg us ds (tw U - tw D - s.1) (tv U + tv D - s.2) := by
  obtain ⟨A, B, rfl⟩ := List.append_of_mem hs
  refine ⟨A ++ B, D, fun t ht => h1 t ?_, h2, ?_, ?_⟩
  · rcases List.mem_append.mp ht with ht | ht
    · exact List.mem_append_left _ ht
    · exact List.mem_append_right _ (List.mem_cons_of_mem _ ht)
  · rw [tw_append, tw_append, tw_cons]
    omega
  · rw [tv_append, tv_append, tv_cons]
    omega
/-- as many steps forward as the strictest one is wide: it may be put in for some of them -/
theorem exchange (nu : ∀ s ∈ us, 1 ≤ s.1 ∧ s.1 ≤ r) {W : Nat} {T : Int} (hW : 0 < W) (hs : ((W : Int), T) ∈ us) (ht : ∀ s ∈ us, T * s.1 ≤ s.2 * W) {U : List (Int × Int)} (h1 : ∀ s ∈ U, s ∈ us) (hl : W ≤ U.length) :
    ∃ U', (∀ s ∈ U', s ∈ us) ∧ ((W : Int), T) ∈ U' ∧ tw U' = tw U ∧ tv U' ≤ tv U := by
  have hM : (0 : Int) < W := by omega
  obtain ⟨i, j, hij, hj, e⟩ := pigeon W (fun i => (tw (U.take i) % (W : Int)).toNat) (fun i _ => by
    have a := Int.emod_nonneg (tw (U.take i)) (show (W : Int) ≠ 0 by omega)
    have b := Int.emod_lt_of_pos (tw (U.take i)) hM
    omega)
  have a1 := Int.emod_nonneg (tw (U.take i)) (show (W : Int) ≠ 0 by omega)
  have a2 := Int.emod_nonneg (tw (U.take j)) (show (W : Int) ≠ 0 by omega)
  have e' : tw (U.take i) % (W : Int) = tw (U.take j) % (W : Int) := by
    have e : (tw (U.take i) % (W : Int)).toNat = (tw (U.take j) % (W : Int)).toNat := e
    omega
  obtain ⟨B, hB⟩ : ∃ B, B = (U.take j).drop i := ⟨_, rfl⟩
  have s1 : U.take j = U.take i ++ B := by
    have := List.take_append_drop i (U.take j)
    rw [List.take_take, Nat.min_eq_left (by omega)] at this
    rw [hB]
    exact this.symm
  have s2 : U = U.take i ++ B ++ U.drop j := by
    rw [← s1]
    exact (List.take_append_drop j U).symm
  have wB : tw (U.take j) = tw (U.take i) + tw B := by rw [s1, tw_append]
  have dv : tw B % (W : Int) = 0 := by
    have : (tw (U.take j) - tw (U.take i)) % (W : Int) = 0 := Int.emod_eq_zero_of_dvd (Int.dvd_of_emod_eq_zero (by rw [Int.sub_emod, e', Int.sub_self]; exact Int.zero_emod _))
    rw [show tw B = tw (U.take j) - tw (U.take i) by omega]
    exact this
  have mB : ∀ s ∈ B, s ∈ us := fun s h => h1 s (by rw [s2]; exact List.mem_append_left _ (List.mem_append_right _ h))
  have lB : B.length = j - i := by rw [hB, List.length_drop, List.length_take]; omega
  have pB : 1 ≤ tw B := by
    have := tw_pos nu B mB
    omega
  obtain ⟨k, hk⟩ := Int.dvd_of_emod_eq_zero dv
  have k0 : 0 < k := by
    refine Classical.byContradiction fun c => ?_
    have : (W : Int) * k ≤ 0 := Int.mul_nonpos_of_nonneg_of_nonpos (by omega) (by omega)
    omega
  obtain ⟨m, rfl⟩ : ∃ m : Nat, k = m := ⟨k.toNat, by omega⟩
  have ex : T * tw B ≤ tv B * W := by
    have := excess (us := us) (ds := []) (W := W) (T := T) hM ht (fun s h => (by cases h)) (n := tw B) (x := tv B) ⟨B, [], mB, fun s h => (by cases h), by rw [tw_nil]; omega, by rw [tv_nil]; omega⟩
    exact this
  have vB : (m : Int) * T ≤ tv B := by
    rw [hk] at ex
    have e2 : T * ((W : Int) * m) = (m * T) * W := by rw [Int.mul_comm (W : Int), ← Int.mul_assoc, Int.mul_comm T]
    rw [e2] at ex
    exact Int.le_of_mul_le_mul_right ex hM
  refine ⟨U.take i ++ List.replicate m ((W : Int), T) ++ U.drop j, fun s h => ?_, ?_, ?_, ?_⟩
  · rcases List.mem_append.mp h with h | h
    · rcases List.mem_append.mp h with h | h
      · exact h1 s (List.mem_of_mem_take h)
      · rw [List.eq_of_mem_replicate h]
        exact hs
    · exact h1 s (List.mem_of_mem_drop h)
  · exact List.mem_append_left _ (List.mem_append_right _ (List.mem_replicate.mpr ⟨by omega, rfl⟩))
  · have := congrArg tw s2
    rw [tw_append, tw_append] at this
    rw [tw_append, tw_append, tw_rep, this, hk, Int.mul_comm (W : Int)]
  · have := congrArg tv s2
    rw [tv_append, tv_append] at this
    rw [tv_append, tv_append, tv_rep, this]
    have v2 : (m : Int) * ((W : Int), T).2 ≤ tv B := vB
    omega
/-- a least way to n days may end in the strictest step, or in one so wide that W of them go beyond n -/
theorem least_last (nu : ∀ s ∈ us, 1 ≤ s.1 ∧ s.1 ≤ r) (nd : ∀ s ∈ ds, 1 ≤ s.1 ∧ s.1 ≤ r) {W : Nat} {T : Int} (hW : 0 < W) (hs : ((W : Int), T) ∈ us) (ht : ∀ s ∈ us, T * s.1 ≤ s.2 * W) {n x : Int} (h : Least us ds n x) (hn : 0 < n) :
    ∃ s ∈ us, (n < s.1 * W ∨ s.1 = W) ∧ Least us ds s.1 s.2 ∧ Least us ds (n - s.1) (x - s.2) := by
  obtain ⟨⟨U, D, h1, h2, h3, h4⟩, hl⟩ := h
  have fin : ∀ s ∈ us, Wg us ds (n - s.1) (x - s.2) → Least us ds s.1 s.2 ∧ Least us ds (n - s.1) (x - s.2) := fun s hs w => by
    have e : Least us ds (s.1 + (n - s.1)) (s.2 + (x - s.2)) := by
      rw [show s.1 + (n - s.1) = n by omega, show s.2 + (x - s.2) = x by omega]
      exact ⟨⟨U, D, h1, h2, h3, h4⟩, hl⟩
    exact least_add e (Wg.fwd hs) w
  by_cases c : ∃ s ∈ U, n < s.1 * W
  · obtain ⟨s, hsU, hw⟩ := c
    have w := wg_less h1 h2 hsU
    rw [h3, h4] at w
    exact ⟨s, h1 s hsU, .inl hw, fin s (h1 s hsU) w⟩
  · have short : ∀ V : List (Int × Int), (∀ s ∈ V, s ∈ U) → tw V * W ≤ V.length * n := by
      intro V
      induction V with
      | nil => intro _; rw [tw_nil]; simp
      | cons s V ih =>
        intro h
        have a := ih (fun t ht => h t (List.mem_cons_of_mem _ ht))
        have b : ¬ n < s.1 * W := fun z => c ⟨s, h s List.mem_cons_self, z⟩
        rw [tw_cons, List.length_cons, Int.add_mul, Int.natCast_add, Int.add_mul, Int.natCast_one, Int.one_mul]
        omega
    have a := short U (fun s h => h)
    have b := tw_pos nd D h2
    have l : W ≤ U.length := by
      have c1 : n * W ≤ tw U * W := Int.mul_le_mul_of_nonneg_right (by omega) (by omega)
      have c2 : (W : Int) * n ≤ U.length * n := by rw [Int.mul_comm]; omega
      have := Int.le_of_mul_le_mul_right c2 hn
      omega
    obtain ⟨U', g1, g2, g3, g4⟩ := exchange nu hW hs ht h1 l
    have w0 : Wg us ds n (tv U' + tv D) := ⟨U', D, g1, h2, by omega, rfl⟩
    have le := hl _ w0
    have w := wg_less g1 h2 g2
    have e1 : tw U' - tw D - ((W : Int), T).1 = n - ((W : Int), T).1 := by omega
    have e2 : tv U' + tv D - ((W : Int), T).2 = x - ((W : Int), T).2 := by omega
    rw [e1, e2] at w
    exact ⟨_, hs, .inr rfl, fin _ hs w⟩
end
end Ev

/-! The table of the far ways: for each rest the least excess, and the least days with it. -/
namespace Ev
open PySem PySem.Spec PyProof.Rows L2
section
variable {us ds : List (Int × Int)} {r W : Nat} {T : Int}
/-- among as many steps as W some, side by side, go a multiple of W -/
theorem whole_part (nu : ∀ s ∈ us, 1 ≤ s.1 ∧ s.1 ≤ r) (hW : 0 < W) {U : List (Int × Int)} (h1 : ∀ s ∈ U, s ∈ us) (hl : W ≤ U.length) : ∃ (A B C : List (Int × Int)) (k : Nat), U = A ++ B ++ C ∧ 0 < B.length ∧ tw B = (k : Int) * W := by
  have hM : (0 : Int) < W := by omega
  obtain ⟨i, j, hij, hj, e⟩ := pigeon W (fun i => (tw (U.take i) % (W : Int)).toNat) (fun i _ => by
    have a := Int.emod_nonneg (tw (U.take i)) (show (W : Int) ≠ 0 by omega)
    have b := Int.emod_lt_of_pos (tw (U.take i)) hM
    omega)
  have a1 := Int.emod_nonneg (tw (U.take i)) (show (W : Int) ≠ 0 by omega)
  have a2 := Int.emod_nonneg (tw (U.take j)) (show (W : Int) ≠ 0 by omega)
  have e' : tw (U.take i) % (W : Int) = tw (U.take j) % (W : Int) := by
    have e : (tw (U.take i) % (W : Int)).toNat = (tw (U.take j) % (W : Int)).toNat := e
    omega
  have s1 : U.take j = U.take i ++ (U.take j).drop i := by
    have := List.take_append_drop i (U.take j)
    rw [List.take_take, Nat.min_eq_left (by omega)] at this
    exact this.symm
  have s2 : U = U.take i ++ (U.take j).drop i ++ U.drop j := by
    rw [← s1]
    exact (List.take_append_drop j U).symm
  have wB : tw (U.take j) = tw (U.take i) + tw ((U.take j).drop i) := by
    have := congrArg tw s1
    rw [tw_append] at this
    exact this
  have lB : ((U.take j).drop i).length = j - i := by rw [List.length_drop, List.length_take]; omega
  have dv : tw ((U.take j).drop i) % (W : Int) = 0 := by
    rw [show tw ((U.take j).drop i) = tw (U.take j) - tw (U.take i) by omega, Int.sub_emod, e', Int.sub_self]
    exact Int.zero_emod _
  have pB : 0 ≤ tw ((U.take j).drop i) := by
    have := tw_pos nu _ (fun s h => h1 s (List.mem_of_mem_take (List.mem_of_mem_drop h)) : ∀ s ∈ (U.take j).drop i, s ∈ us)
    omega
  obtain ⟨k, hk⟩ := Int.dvd_of_emod_eq_zero dv
  have k0 : 0 ≤ k := by
    refine Classical.byContradiction fun c => ?_
    have : (W : Int) * k < 0 := Int.mul_neg_of_pos_of_neg hM (by omega)
    omega
  obtain ⟨m, rfl⟩ : ∃ m : Nat, k = m := ⟨k.toNat, by omega⟩
  exact ⟨_, _, _, m, s2, by omega, by rw [hk, Int.mul_comm]⟩
/-- forward steps without whole parts: fewer than W, of no more excess -/
theorem reduce (nu : ∀ s ∈ us, 1 ≤ s.1 ∧ s.1 ≤ r) (hW : 0 < W) (ht : ∀ s ∈ us, T * s.1 ≤ s.2 * W) : ∀ (k : Nat) (V : List (Int × Int)), V.length = k → (∀ s ∈ V, s ∈ us) → ∃ (V' : List (Int × Int)) (m : Nat), (∀ s ∈ V', s ∈ us) ∧ V'.length < W ∧ tw V = tw V' + (m : Int) * W ∧ tv V' * W - T * tw V' ≤ tv V * W - T * tw V := by
  intro k
  induction k using Nat.strongRecOn with
  | ind k ih =>
    intro V hk hV
    by_cases c : V.length < W
    · exact ⟨V, 0, hV, c, by rw [Int.natCast_zero, Int.zero_mul, Int.add_zero], Int.le_refl _⟩
    · obtain ⟨A, B, C, m, rfl, lB, wB⟩ := whole_part nu hW hV (by omega)
      rw [List.length_append, List.length_append] at hk
      obtain ⟨V', m', a1, a2, a3, a4⟩ := ih (A ++ C).length (by rw [List.length_append]; omega) (A ++ C) rfl (fun s h => hV s (by
        rcases List.mem_append.mp h with h | h
        · exact List.mem_append_left _ (List.mem_append_left _ h)
        · exact List.mem_append_right _ h))
      have ex : T * tw B ≤ tv B * W := excess (us := us) (ds := []) (by omega) ht (fun s h => (by cases h)) (n := tw B) (x := tv B) ⟨B, [], fun s h => hV s (List.mem_append_left _ (List.mem_append_right _ h)), fun s h => (by cases h), by rw [tw_nil]; omega, by rw [tv_nil]; omega⟩
      refine ⟨V', m' + m, a1, a2, ?_, ?_⟩
      · rw [tw_append] at a3
        rw [tw_append, tw_append, Int.natCast_add, Int.add_mul]
        omega
      · rw [tw_append, tv_append] at a4
        rw [tw_append, tw_append, tv_append, tv_append]
        rw [Int.add_mul, Int.mul_add] at a4
        rw [Int.add_mul, Int.add_mul, Int.mul_add, Int.mul_add]
        omega
theorem tw_le (nu : ∀ s ∈ us, 1 ≤ s.1 ∧ s.1 ≤ r) : ∀ V : List (Int × Int), (∀ s ∈ V, s ∈ us) → tw V ≤ V.length * r := by
  intro V
  induction V with
  | nil => intro _; rw [tw_nil]; simp
  | cons s V ih =>
    intro h
    have a := ih (fun t ht => h t (List.mem_cons_of_mem _ ht))
    have b := nu s (h s List.mem_cons_self)
    rw [tw_cons, List.length_cons, Int.natCast_add, Int.add_mul, Int.natCast_one, Int.one_mul]
    omega
/-- the table: each entry is some way's, and none of a near start with steps forward is below it -/
structure Tab (us ds : List (Int × Int)) (r W : Nat) (T S : Int) (f : Nat → Int) : Prop where
  att : ∀ ρ, ρ < W → ∃ (n : Nat) (x : Int), Wg us ds n x ∧ n % W = ρ ∧ (n : Int) < S ∧ f ρ = (x * W - T * n) * S + n
  low : ∀ (p : Nat) (y : Int) (V : List (Int × Int)), p ≤ r → Wg us ds p y → (∀ s ∈ V, s ∈ us) → ∀ n : Nat, (n : Int) = p + tw V → f (n % W) ≤ ((y + tv V) * W - T * n) * S + n
theorem Tab.far {S : Int} {f : Nat → Int} (t : Tab us ds r W T S f) (nu : ∀ s ∈ us, 1 ≤ s.1 ∧ s.1 ≤ r) (nd : ∀ s ∈ ds, 1 ≤ s.1 ∧ s.1 ≤ r) (hW : 0 < W) (hs : ((W : Int), T) ∈ us) (ht : ∀ s ∈ us, T * s.1 ≤ s.2 * W) (hS : (r : Int) + W * r < S) {n : Nat} (hn : f (n % W) % S ≤ n) :
    Least us ds n ((f (n % W) / S + T * ((n % W : Nat) : Int)) / W + ((n / W : Nat) : Int) * T) := by
  have hS0 : 0 < S := by
    have := Int.mul_nonneg (show (0 : Int) ≤ W by omega) (show (0 : Int) ≤ r by omega)
    omega
  have hρ : n % W < W := Nat.mod_lt _ hW
  obtain ⟨L, x, wL, eL, lL, ef⟩ := t.att _ hρ
  obtain ⟨kd, km⟩ := key_of (c := x * W - T * L) hS0 (show (0 : Int) ≤ (L : Int) by omega) lL
  rw [← ef] at kd km
  rw [km] at hn
  rw [kd]
  have hn' : L ≤ n := by omega
  have nL : n = L + (n / W - L / W) * W := by
    have e1 := Nat.div_add_mod n W
    have e2 := Nat.div_add_mod L W
    have e3 : L / W ≤ n / W := Nat.div_le_div_right hn'
    rw [Nat.sub_mul, Nat.mul_comm (n / W), Nat.mul_comm (L / W)]
    have e4 : W * (L / W) ≤ W * (n / W) := Nat.mul_le_mul_left _ e3
    omega
  generalize hk : n / W - L / W = k at nL
  have nW : ((n / W : Nat) : Int) = ((L / W : Nat) : Int) + k := by
    have e3 : L / W ≤ n / W := Nat.div_le_div_right hn'
    omega
  have eLn : ((L : Nat) : Int) = W * ((L / W : Nat) : Int) + ((n % W : Nat) : Int) := by
    have := Nat.div_add_mod L W
    rw [eL] at this
    omega
  have val : (x * W - T * L + T * ((n % W : Nat) : Int)) / W + ((n / W : Nat) : Int) * T = x + k * T := by
    have e : x * W - T * L + T * ((n % W : Nat) : Int) = (x - T * ((L / W : Nat) : Int)) * W := by
      rw [eLn, Int.mul_add, Int.sub_mul, Int.mul_assoc, Int.mul_comm ((L / W : Nat) : Int)]
      omega
    rw [e, Int.mul_ediv_cancel _ (show (W : Int) ≠ 0 by omega), nW, Int.add_mul, Int.mul_comm T]
    omega
  rw [val]
  have way : Wg us ds n (x + k * T) := by
    have := far_least (W := W) (T := T) (by omega) hs wL k
    have e : (n : Int) = (L : Int) + (k : Int) * W := by
      have := congrArg (fun z : Nat => (z : Int)) nL
      simp only [Int.natCast_add, Int.natCast_mul] at this
      exact this
    rw [e]
    exact this
  refine ⟨way, fun y hy => ?_⟩
  obtain ⟨p, z, V, a1, a2, a3, a4, a5⟩ := far_split nu nd hy (by omega)
  obtain ⟨V', m, b1, b2, b3, b4⟩ := reduce nu hW ht _ V rfl a3
  have tV' : 0 ≤ tw V' := by
    have := tw_pos nu V' b1
    omega
  obtain ⟨n', hn2⟩ : ∃ n' : Nat, (n' : Int) = p + tw V' := ⟨((p : Int) + tw V').toNat, by omega⟩
  have mod : n' % W = n % W := by
    have : (n : Int) = n' + (m : Int) * W := by omega
    have : n = n' + m * W := by
      have h : ((n : Nat) : Int) = ((n' + m * W : Nat) : Int) := by
        rw [Int.natCast_add, Int.natCast_mul]
        exact this
      omega
    rw [this, Nat.add_mul_mod_self_right]
  have lo := t.low p z V' a1 a2 b1 n' hn2
  rw [mod, ef] at lo
  have small : (n' : Int) < S := by
    have c1 := tw_le nu V' b1
    have c2 : (V'.length : Int) * r ≤ W * r := Int.mul_le_mul_of_nonneg_right (by omega) (by omega)
    omega
  have ex : x * W - T * L ≤ (z + tv V') * W - T * n' := by
    refine Classical.byContradiction fun c => ?_
    have : ((z + tv V') * W - T * n' + 1) * S ≤ (x * W - T * L) * S := Int.mul_le_mul_of_nonneg_right (by omega) (by omega)
    rw [Int.add_mul, Int.one_mul] at this
    omega
  have e1 : (z + tv V') * W - T * n' ≤ y * W - T * n := by
    rw [hn2, ← a4, ← a5, Int.add_mul, Int.add_mul, Int.mul_add, Int.mul_add]
    omega
  have e2 : (x + k * T) * W - T * n = x * W - T * L := by
    have e : (n : Int) = (L : Int) + (k : Int) * W := by
      have := congrArg (fun z : Nat => (z : Int)) nL
      simp only [Int.natCast_add, Int.natCast_mul] at this
      exact this
    rw [e, Int.add_mul, Int.mul_add, Int.mul_assoc, Int.mul_comm T ((k : Int) * W), Int.mul_assoc, Int.mul_comm T W]
    omega
  exact Int.le_of_mul_le_mul_right (show (x + k * T) * W ≤ y * W by omega) (by omega)
end
end Ev

/-! Spreading steps over a table, and the table that comes of it. -/
namespace Ev
open PySem PySem.Spec PyProof.Rows L2
/-- g is f with a step of w days at the cost c, any number of times -/
structure Spr (W : Nat) (w : Nat) (c : Int) (f g : Nat → Int) : Prop where
  le : ∀ ρ, ρ < W → g ρ ≤ f ρ
  st : ∀ ρ, ρ < W → g ((ρ + w) % W) ≤ g ρ + c
  at_ : ∀ ρ, ρ < W → ∃ k σ : Nat, k ≤ 2 * W ∧ σ < W ∧ (σ + k * w) % W = ρ ∧ g ρ = f σ + k * c
def Clo (W : Nat) (w : Nat) (c : Int) (f : Nat → Int) : Prop := ∀ ρ, ρ < W → f ((ρ + w) % W) ≤ f ρ + c
section
variable {W w w' : Nat} {c c' : Int} {f g : Nat → Int}
theorem Spr.many (h : Spr W w c f g) (hW : 0 < W) {τ : Nat} (ht : τ < W) : ∀ k : Nat, g ((τ + k * w) % W) ≤ f τ + k * c := by
  intro k
  induction k with
  | zero =>
    rw [Nat.zero_mul, Nat.add_zero, Nat.mod_eq_of_lt ht, Int.natCast_zero, Int.zero_mul, Int.add_zero]
    exact h.le τ ht
  | succ k ih =>
    have a := h.st ((τ + k * w) % W) (Nat.mod_lt _ hW)
    rw [Nat.mod_add_mod] at a
    rw [Nat.succ_mul, ← Nat.add_assoc, Int.natCast_add, Int.natCast_one, Int.add_mul, Int.one_mul]
    omega
/-- closed under an earlier step it stays -/
theorem Spr.keep (h : Spr W w c f g) (hW : 0 < W) (cl : Clo W w' c' f) : Clo W w' c' g := fun ρ hρ => by
  obtain ⟨k, σ, _, hσ, e, eg⟩ := h.at_ ρ hρ
  have a := h.many hW (τ := (σ + w') % W) (Nat.mod_lt _ hW) k
  have b := cl σ hσ
  rw [Nat.mod_add_mod] at a
  have e2 : (σ + w' + k * w) % W = (ρ + w') % W := by
    rw [← e, Nat.mod_add_mod]
    congr 1
    omega
  rw [e2] at a
  omega
end
section
variable {us ds : List (Int × Int)} {r W : Nat} {T S : Int}
/-- what stands behind the spreading of some of the steps -/
structure TI (us ds : List (Int × Int)) (r W : Nat) (T S : Int) (done : List (Int × Int)) (f : Nat → Int) : Prop where
  att : ∀ ρ, ρ < W → ∃ (n : Nat) (x : Int), Wg us ds n x ∧ n % W = ρ ∧ n ≤ r + done.length * (2 * W * r) ∧ f ρ = (x * W - T * n) * S + n
  near : ∀ p y, p ≤ r → Wg us ds (p : Nat) y → f (p % W) ≤ (y * W - T * p) * S + p
  clo : ∀ s ∈ done, ∀ w : Nat, s.1 = w → Clo W w ((s.2 * W - T * s.1) * S + s.1) f
theorem TI.step {done : List (Int × Int)} {f g : Nat → Int} (h : TI us ds r W T S done f) (hW : 0 < W) {s : Int × Int} (hs : s ∈ us) {w : Nat} (ew : s.1 = w) (hw : w ≤ r) (sp : Spr W w ((s.2 * W - T * s.1) * S + s.1) f g) : TI us ds r W T S (done ++ [s]) g := by
  refine ⟨fun ρ hρ => ?_, fun p y hp hy => Int.le_trans (sp.le _ (Nat.mod_lt _ hW)) (h.near p y hp hy), fun t ht w' ew' => ?_⟩
  · obtain ⟨k, σ, hk, hσ, e, eg⟩ := sp.at_ ρ hρ
    obtain ⟨n, x, wg, em, ln, ef⟩ := h.att σ hσ
    refine ⟨n + k * w, x + k * s.2, ?_, ?_, ?_, ?_⟩
    · have := wg.add (Wg.rep (ds := ds) hs k)
      rw [Int.natCast_add, Int.natCast_mul, ← ew]
      exact this
    · rw [← e, ← em, Nat.mod_add_mod]
    · have a : k * w ≤ 2 * W * r := Nat.mul_le_mul hk hw
      rw [List.length_append, List.length_singleton, Nat.add_mul, Nat.one_mul]
      omega
    · have e3 : (k : Int) * ((s.2 * W - T * s.1) * S + s.1) = ((k * s.2) * W - T * (k * w)) * S + k * w := by
        rw [← ew, Int.mul_add, ← Int.mul_assoc, Int.mul_sub, Int.mul_assoc, ← Int.mul_assoc (k : Int) T, Int.mul_comm (k : Int) T, Int.mul_assoc T]
      rw [eg, ef, e3, Int.natCast_add, Int.natCast_mul]
      have e4 : (x + k * s.2) * W - T * (n + k * w) = (x * W - T * n) + (k * s.2 * W - T * (k * w)) := by
        rw [Int.add_mul, Int.mul_add]
        omega
      rw [e4, Int.add_mul]
      omega
  · rcases List.mem_append.mp ht with ht | ht
    · exact sp.keep hW (h.clo t ht w' ew')
    · have : t = s := List.mem_singleton.mp ht
      subst this
      have : w' = w := by omega
      subst this
      exact sp.st
/-- all steps spread: the table -/
theorem TI.tab {f : Nat → Int} (h : TI us ds r W T S us f) (hW : 0 < W) (nu : ∀ s ∈ us, 1 ≤ s.1 ∧ s.1 ≤ r) (hS : ((r + us.length * (2 * W * r) : Nat) : Int) < S) : Tab us ds r W T S f := by
  refine ⟨fun ρ hρ => ?_, fun p y V hp hy hV => ?_⟩
  · obtain ⟨n, x, a, b, c, d⟩ := h.att ρ hρ
    exact ⟨n, x, a, b, by omega, d⟩
  · have A : ∀ V : List (Int × Int), (∀ s ∈ V, s ∈ us) → ∀ n : Nat, (n : Int) = p + tw V → f (n % W) ≤ ((y + tv V) * W - T * n) * S + n := by
      intro V
      induction V with
      | nil =>
        intro _ n e
        rw [tw_nil, Int.add_zero] at e
        rw [tv_nil, Int.add_zero]
        have : n = p := by omega
        subst this
        exact h.near n y hp hy
      | cons s V ih =>
        intro hV n e
        have hs := hV s List.mem_cons_self
        have ns := nu s hs
        have hV' : ∀ t ∈ V, t ∈ us := fun t ht => hV t (List.mem_cons_of_mem _ ht)
        have t0 := tw_pos nu V hV'
        rw [tw_cons] at e
        obtain ⟨w, ew⟩ : ∃ w : Nat, s.1 = w := ⟨s.1.toNat, by omega⟩
        obtain ⟨m, em⟩ : ∃ m : Nat, (m : Int) = p + tw V := ⟨((p : Int) + tw V).toNat, by omega⟩
        have a := ih hV' m em
        have b := h.clo s hs w ew (m % W) (Nat.mod_lt _ hW)
        rw [Nat.mod_add_mod] at b
        have : m + w = n := by omega
        subst this
        rw [tv_cons]
        have e4 : (y + (s.2 + tv V)) * W - T * ((m + w : Nat) : Int) = ((y + tv V) * W - T * m) + (s.2 * W - T * s.1) := by
          rw [ew, Int.natCast_add, Int.mul_add, Int.add_mul, Int.add_mul, Int.add_mul]
          omega
        rw [e4, Int.add_mul, Int.natCast_add]
        omega
    exact A V hV
end
end Ev

/-! Nearly twice around a circle of c places. -/
namespace Ev
open PySem PySem.Spec PyProof.Rows L2
/-- the entries e by turns: e 0 is the first place's; each turn the one before and m more, or what stands there, what is less -/
structure Pass (c : Nat) (m : Int) (a e : Nat → Int) (n : Nat) : Prop where
  z : e 0 = a 0
  s : ∀ j, 0 < j → j ≤ n → (e j = e (j - 1) + m ∧ e (j - 1) + m ≤ (if j < c then a j else if j = c then a 0 else e (j - c))) ∨ (e j = (if j < c then a j else if j = c then a 0 else e (j - c)) ∧ (if j < c then a j else if j = c then a 0 else e (j - c)) ≤ e (j - 1) + m)
section
variable {c n : Nat} {m : Int} {a e : Nat → Int}
theorem sub_mod_c {j k c : Nat} (h : k + c ≤ j) : (j - c - k) % c = (j - k) % c := by
  rw [show j - k = (j - c - k) + c by omega, Nat.add_mod_right]
theorem Pass.le (h : Pass c m a e n) (hc : 0 < c) : ∀ j, j ≤ n → ∀ k, k ≤ j → e j ≤ a ((j - k) % c) + k * m := by
  intro j
  induction j using Nat.strongRecOn with
  | ind j ih =>
    intro hj k hk
    by_cases j0 : j = 0
    · subst j0
      have : k = 0 := by omega
      subst this
      rw [h.z, Nat.zero_sub, Nat.zero_mod, Int.natCast_zero, Int.zero_mul]
      omega
    · have st := h.s j (by omega) hj
      by_cases k0 : k = 0
      · subst k0
        rw [Nat.sub_zero, Int.natCast_zero, Int.zero_mul, Int.add_zero]
        have cur : (if j < c then a j else if j = c then a 0 else e (j - c)) ≤ a (j % c) := by
          by_cases c1 : j < c
          · rw [if_pos c1, Nat.mod_eq_of_lt c1]
            omega
          · rw [if_neg c1]
            by_cases c2 : j = c
            · rw [if_pos c2, c2, Nat.mod_self]
              omega
            · rw [if_neg c2]
              have := ih (j - c) (by omega) (by omega) 0 (by omega)
              rw [Nat.sub_zero, Int.natCast_zero, Int.zero_mul, Int.add_zero] at this
              rw [show j % c = (j - c) % c by rw [Nat.mod_eq_sub_mod (by omega)]]
              exact this
        rcases st with ⟨s1, s2⟩ | ⟨s1, s2⟩
        · omega
        · omega
      · have := ih (j - 1) (by omega) (by omega) (k - 1) (by omega)
        rw [show j - 1 - (k - 1) = j - k by omega] at this
        have e2 : (k : Int) * m = ((k - 1 : Nat) : Int) * m + m := by
          obtain ⟨k', rfl⟩ : ∃ k', k = k' + 1 := ⟨k - 1, by omega⟩
          rw [Nat.add_sub_cancel, Int.natCast_add, Int.natCast_one, Int.add_mul, Int.one_mul]
        rcases st with ⟨s1, s2⟩ | ⟨s1, s2⟩
        · omega
        · omega
theorem Pass.at_ (h : Pass c m a e n) (hc : 0 < c) : ∀ j, j ≤ n → ∃ k, k ≤ j ∧ e j = a ((j - k) % c) + k * m := by
  intro j
  induction j using Nat.strongRecOn with
  | ind j ih =>
    intro hj
    by_cases j0 : j = 0
    · subst j0
      exact ⟨0, Nat.le_refl _, by rw [h.z, Nat.zero_sub, Nat.zero_mod, Int.natCast_zero, Int.zero_mul]; omega⟩
    · rcases h.s j (by omega) hj with ⟨s1, _⟩ | ⟨s1, _⟩
      · obtain ⟨k, hk, ek⟩ := ih (j - 1) (by omega) (by omega)
        refine ⟨k + 1, by omega, ?_⟩
        rw [s1, ek, show j - (k + 1) = j - 1 - k by omega, Int.natCast_add, Int.natCast_one, Int.add_mul, Int.one_mul]
        omega
      · by_cases c1 : j < c
        · rw [if_pos c1] at s1
          exact ⟨0, Nat.zero_le _, by rw [s1, Nat.sub_zero, Nat.mod_eq_of_lt c1, Int.natCast_zero, Int.zero_mul]; omega⟩
        · rw [if_neg c1] at s1
          by_cases c2 : j = c
          · rw [if_pos c2] at s1
            exact ⟨0, Nat.zero_le _, by rw [s1, Nat.sub_zero, c2, Nat.mod_self, Int.natCast_zero, Int.zero_mul]; omega⟩
          · rw [if_neg c2] at s1
            obtain ⟨k, hk, ek⟩ := ih (j - c) (by omega) (by omega)
            exact ⟨k, by omega, by rw [s1, ek, sub_mod_c (by omega)]⟩
/-- what stands at the places behind the last turn -/
def fin_ (c : Nat) (e : Nat → Int) (i : Nat) : Int := if i + 1 < c then e (c + i) else e (c - 1)
theorem Pass.fin (h : Pass c m a e (2 * c - 2)) (hc : 0 < c) {i : Nat} (hi : i < c) : ∃ J, J ≤ 2 * c - 2 ∧ c - 1 ≤ J ∧ J % c = i ∧ fin_ c e i = e J := by
  unfold fin_
  by_cases c1 : i + 1 < c
  · rw [if_pos c1]
    exact ⟨c + i, by omega, by omega, by rw [Nat.add_mod_left, Nat.mod_eq_of_lt hi], rfl⟩
  · rw [if_neg c1]
    exact ⟨c - 1, by omega, by omega, by rw [Nat.mod_eq_of_lt (by omega)]; omega, rfl⟩
theorem Pass.closed (h : Pass c m a e (2 * c - 2)) (hc : 0 < c) (hm : 0 ≤ m) {i : Nat} (hi : i < c) : fin_ c e ((i + 1) % c) ≤ fin_ c e i + m := by
  obtain ⟨J, l1, l2, mJ, eJ⟩ := h.fin hc hi
  obtain ⟨J', g1, g2, mJ', eJ'⟩ := h.fin hc (Nat.mod_lt (i + 1) hc)
  obtain ⟨k, hk, ek⟩ := h.at_ hc J l1
  rw [eJ, eJ', ek]
  have kc : (k + 1) % c < c := Nat.mod_lt _ hc
  have a1 := h.le hc J' g1 ((k + 1) % c) (by omega)
  have same : (J' - (k + 1) % c) % c = (J - k) % c := by
    have e1 := Nat.div_add_mod (k + 1) c
    have e2 := Nat.div_add_mod J' c
    have e3 := Nat.div_add_mod (i + 1) c
    have e4 := Nat.div_add_mod J c
    rw [mJ'] at e2
    rw [mJ] at e4
    have eq : ((J' - (k + 1) % c : Nat) : Int) = ((J - k : Nat) : Int) + c * (((J' / c : Nat) : Int) - ((i + 1) / c : Nat) - ((J / c : Nat) : Int) + ((k + 1) / c : Nat)) := by
      rw [Int.mul_add, Int.mul_sub, Int.mul_sub, ← Int.natCast_mul, ← Int.natCast_mul, ← Int.natCast_mul, ← Int.natCast_mul]
      omega
    have em : ((J' - (k + 1) % c : Nat) : Int) % (c : Int) = ((J - k : Nat) : Int) % (c : Int) := by
      rw [eq, Int.add_mul_emod_self_left]
    have em2 : (((J' - (k + 1) % c) % c : Nat) : Int) = (((J - k) % c : Nat) : Int) := by
      rw [Int.natCast_emod, Int.natCast_emod]
      exact em
    omega
  rw [same] at a1
  have b : (((k + 1) % c : Nat) : Int) * m ≤ ((k + 1 : Nat) : Int) * m := Int.mul_le_mul_of_nonneg_right (by have := Nat.mod_le (k + 1) c; omega) hm
  rw [Int.natCast_add, Int.natCast_one, Int.add_mul, Int.one_mul] at b
  omega
end
end Ev

/-! The places 0 .. W - 1 as circles by steps of s places. -/
namespace Ev
open PySem PySem.Spec PyProof.Rows L2
section
variable {W s : Nat}
theorem circ_mod (hW : 0 < W) {f i : Nat} (hf : f < Nat.gcd s W) : (f + i * s) % W % Nat.gcd s W = f := by
  rw [Nat.mod_mod_of_dvd _ (Nat.gcd_dvd_right s W)]
  obtain ⟨k, hk⟩ := Nat.gcd_dvd_left s W
  have : i * s = Nat.gcd s W * (i * k) := by
    rw [Nat.mul_left_comm, ← hk]
  rw [this, Nat.add_mul_mod_self_left, Nat.mod_eq_of_lt hf]
theorem circ_inj (hW : 0 < W) {f i j : Nat} (hi : i < W / Nat.gcd s W) (hj : j < W / Nat.gcd s W) (e : (f + i * s) % W = (f + j * s) % W) : i = j := by
  have g0 : 0 < Nat.gcd s W := Nat.gcd_pos_of_pos_right _ hW
  have key : ∀ {i j : Nat}, i ≤ j → j < W / Nat.gcd s W → (f + i * s) % W = (f + j * s) % W → i = j := fun {i j} hij hj e => by
    have d : W ∣ (j - i) * s := by
      have a := Nat.dvd_of_mod_eq_zero (Nat.sub_mod_eq_zero_of_mod_eq e.symm)
      rw [Nat.add_sub_add_left, ← Nat.sub_mul] at a
      exact a
    have cop : Nat.Coprime (W / Nat.gcd s W) (s / Nat.gcd s W) := by
      have := Nat.coprime_div_gcd_div_gcd (m := s) (n := W) g0
      exact this.symm
    obtain ⟨k, hk⟩ := Nat.gcd_dvd_left s W
    obtain ⟨c, hc⟩ := Nat.gcd_dvd_right s W
    have sk : s / Nat.gcd s W = k := Nat.div_eq_of_eq_mul_right g0 hk
    have wc : W / Nat.gcd s W = c := Nat.div_eq_of_eq_mul_right g0 hc
    rw [sk, wc] at cop
    rw [wc] at hj
    have d2 : c ∣ (j - i) * k := by
      have : Nat.gcd s W * c ∣ Nat.gcd s W * ((j - i) * k) := by
        rw [← hc, Nat.mul_left_comm, ← hk]
        exact d
      exact Nat.dvd_of_mul_dvd_mul_left g0 this
    have d3 : c ∣ j - i := cop.dvd_of_dvd_mul_right d2
    have := Nat.eq_zero_of_dvd_of_lt d3 (by omega)
    omega
  rcases Nat.le_total i j with h | h
  · exact key h hj e
  · exact (key h hi e.symm).symm
theorem circ_all (hW : 0 < W) {ρ : Nat} (hρ : ρ < W) : ∃ i, i < W / Nat.gcd s W ∧ (ρ % Nat.gcd s W + i * s) % W = ρ := by
  have g0 : 0 < Nat.gcd s W := Nat.gcd_pos_of_pos_right _ hW
  have hf := Nat.mod_lt ρ g0
  refine Classical.byContradiction fun no => ?_
  obtain ⟨c, hc⟩ := Nat.gcd_dvd_right s W
  have wc : W / Nat.gcd s W = c := Nat.div_eq_of_eq_mul_right g0 hc
  have back : ∀ {x y : Nat}, x % Nat.gcd s W = ρ % Nat.gcd s W → y % Nat.gcd s W = ρ % Nat.gcd s W → x / Nat.gcd s W = y / Nat.gcd s W → x = y := fun {x y} a b d => by
    have h1 := Nat.div_add_mod x (Nat.gcd s W)
    have h2 := Nat.div_add_mod y (Nat.gcd s W)
    rw [d] at h1
    omega
  have lt : ∀ x, x < W → x / Nat.gcd s W < c := fun x hx => by
    rw [Nat.div_lt_iff_lt_mul g0, Nat.mul_comm, ← hc]
    exact hx
  have nd : ((ρ / Nat.gcd s W) :: (List.range c).map (fun i => (ρ % Nat.gcd s W + i * s) % W / Nat.gcd s W)).Nodup := by
    rw [List.nodup_cons]
    refine ⟨fun h => ?_, List.pairwise_iff_getElem.mpr fun i j hi hj hij e => ?_⟩
    · obtain ⟨i, hi, ei⟩ := List.mem_map.mp h
      refine no ⟨i, by rw [wc]; exact List.mem_range.mp hi, ?_⟩
      exact back (circ_mod hW hf) rfl ei
    · rw [List.length_map, List.length_range] at hi hj
      rw [List.getElem_map, List.getElem_map, List.getElem_range, List.getElem_range] at e
      have := back (circ_mod hW hf) (circ_mod hW hf) e
      have := circ_inj hW (by rw [wc]; exact hi) (by rw [wc]; exact hj) this
      omega
  have l := nodup_le c _ nd fun x hx => by
    rcases List.mem_cons.mp hx with rfl | hx
    · exact lt ρ hρ
    · obtain ⟨i, _, rfl⟩ := List.mem_map.mp hx
      exact lt _ (Nat.mod_lt _ hW)
  rw [List.length_cons, List.length_map, List.length_range] at l
  omega
end
end Ev

/-! The circles of places, one after another: a step spread over the whole table. -/
namespace Ev
open PySem PySem.Spec PyProof.Rows L2
section
variable {W s : Nat}
theorem circ_idx (hW : 0 < W) {f x y : Nat} (e : x % (W / Nat.gcd s W) = y % (W / Nat.gcd s W)) : (f + x * s) % W = (f + y * s) % W := by
  obtain ⟨k, hk⟩ := Nat.gcd_dvd_left s W
  obtain ⟨c, hc⟩ := Nat.gcd_dvd_right s W
  have g0 : 0 < Nat.gcd s W := Nat.gcd_pos_of_pos_right _ hW
  have wc : W / Nat.gcd s W = c := Nat.div_eq_of_eq_mul_right g0 hc
  rw [wc] at e
  have cs : c * s = W * k := by
    have a : c * s = c * (Nat.gcd s W * k) := congrArg (c * ·) hk
    have b : W * k = Nat.gcd s W * c * k := congrArg (· * k) hc
    rw [a, b, Nat.mul_left_comm, Nat.mul_assoc]
  have key : ∀ z : Nat, (f + z * s) % W = (f + (z % c) * s) % W := fun z => by
    have h : z * s = (z % c) * s + W * (k * (z / c)) := by
      have d := Nat.div_add_mod z c
      have : z * s = (c * (z / c) + z % c) * s := by rw [d]
      rw [this, Nat.add_mul, Nat.mul_right_comm, cs, Nat.mul_assoc, Nat.add_comm]
    rw [h, ← Nat.add_assoc, Nat.add_mul_mod_self_left]
  rw [key x, key y, e]
/-- what stands at the i-th place of a circle behind j turns -/
def vl (c : Nat) (a e : Nat → Int) (j i : Nat) : Int := if i + c ≤ j then e (i + c) else if i ≤ j then e i else a i
def cur_ (c : Nat) (a e : Nat → Int) (j : Nat) : Int := if j < c then a j else if j = c then a 0 else e (j - c)
theorem vl_zero {c : Nat} {a e : Nat → Int} (hc : 0 < c) (h : e 0 = a 0) (i : Nat) : vl c a e 0 i = a i := by
  unfold vl
  rw [if_neg (by omega)]
  by_cases z : i ≤ 0
  · rw [if_pos z]
    have : i = 0 := by omega
    rw [this, h]
  · rw [if_neg z]
theorem vl_cur {c j : Nat} {a e : Nat → Int} (hc : 0 < c) (h : e 0 = a 0) (hj : j + 1 ≤ 2 * c - 2) : vl c a e j ((j + 1) % c) = cur_ c a e (j + 1) := by
  unfold vl cur_
  by_cases c1 : j + 1 < c
  · rw [Nat.mod_eq_of_lt c1, if_neg (by omega), if_neg (by omega), if_pos c1]
  · rw [if_neg c1]
    by_cases c2 : j + 1 = c
    · rw [c2, Nat.mod_self, if_neg (by omega), if_pos (Nat.zero_le _), if_pos rfl, h]
    · have em : (j + 1) % c = j + 1 - c := by rw [Nat.mod_eq_sub_mod (by omega), Nat.mod_eq_of_lt (by omega)]
      rw [em, if_neg (by omega), if_pos (by omega), if_neg c2]
def ext_ (e : Nat → Int) (j : Nat) (v : Int) : Nat → Int := fun x => if x = j then v else e x
theorem vl_step {c j : Nat} {a e : Nat → Int} {v : Int} (hc : 0 < c) (hj : j + 1 ≤ 2 * c - 2) {i : Nat} (hi : i < c) : vl c a (ext_ e (j + 1) v) (j + 1) i = if i = (j + 1) % c then v else vl c a e j i := by
  have em : (j + 1) % c = if j + 1 < c then j + 1 else j + 1 - c := by
    by_cases c1 : j + 1 < c
    · rw [if_pos c1, Nat.mod_eq_of_lt c1]
    · rw [if_neg c1]
      by_cases c2 : j + 1 = c
      · rw [c2, Nat.mod_self, Nat.sub_self]
      · rw [Nat.mod_eq_sub_mod (by omega), Nat.mod_eq_of_lt (by omega)]
  rw [em]
  unfold vl ext_
  by_cases c1 : j + 1 < c
  · rw [if_pos c1, if_neg (show ¬ i + c ≤ j + 1 by omega), if_neg (show ¬ i + c ≤ j by omega)]
    by_cases c3 : i = j + 1
    · rw [if_pos c3, if_pos (by omega), if_pos c3]
    · rw [if_neg c3, if_neg c3]
      by_cases c4 : i ≤ j
      · rw [if_pos c4, if_pos (by omega)]
      · rw [if_neg c4, if_neg (by omega)]
  · rw [if_neg c1]
    by_cases c3 : i = j + 1 - c
    · rw [if_pos c3, if_pos (by omega), if_pos (by omega)]
    · rw [if_neg c3]
      by_cases c4 : i + c ≤ j
      · rw [if_pos c4, if_pos (by omega), if_neg (by omega)]
      · rw [if_neg c4, if_neg (by omega), if_pos (show i ≤ j by omega), if_pos (show i ≤ j + 1 by omega), if_neg (by omega)]
theorem Pass.ext {c j : Nat} {m : Int} {a e : Nat → Int} (h : Pass c m a e j) {v : Int} (hv : (v = e j + m ∧ e j + m ≤ cur_ c a e (j + 1)) ∨ (v = cur_ c a e (j + 1) ∧ cur_ c a e (j + 1) ≤ e j + m)) (hc : 0 < c) : Pass c m a (ext_ e (j + 1) v) (j + 1) := by
  have old : ∀ k, k ≤ j → ext_ e (j + 1) v k = e k := fun k hk => by
    unfold ext_
    rw [if_neg (by omega)]
  have at_ : ext_ e (j + 1) v (j + 1) = v := by
    unfold ext_
    rw [if_pos rfl]
  refine ⟨by rw [old 0 (Nat.zero_le _)]; exact h.z, fun k h0 hk => ?_⟩
  by_cases ck : k ≤ j
  · have := h.s k h0 ck
    rw [old k ck, old (k - 1) (by omega), old (k - c) (by omega)]
    exact this
  · have : k = j + 1 := by omega
    subst this
    rw [at_, Nat.add_sub_cancel, old j (Nat.le_refl _), old (j + 1 - c) (by omega)]
    unfold cur_ at hv
    exact hv
theorem vl_fin {c : Nat} {a e : Nat → Int} (hc : 0 < c) {i : Nat} (hi : i < c) : vl c a e (2 * c - 2) i = fin_ c e i := by
  unfold vl fin_
  by_cases c1 : i + 1 < c
  · rw [if_pos (by omega), if_pos c1, Nat.add_comm]
  · rw [if_neg (by omega), if_pos (by omega), if_neg c1]
    congr 1
    omega
/-- the first k circles done -/
structure Sp1 (W s : Nat) (m : Int) (f : Nat → Int) (k : Nat) (t : Nat → Int) : Prop where
  old : ∀ ρ, ρ < W → k ≤ ρ % Nat.gcd s W → t ρ = f ρ
  new : ∀ o, o < k → ∃ e, Pass (W / Nat.gcd s W) m (fun i => f ((o + i * s) % W)) e (2 * (W / Nat.gcd s W) - 2) ∧ ∀ i, i < W / Nat.gcd s W → t ((o + i * s) % W) = fin_ (W / Nat.gcd s W) e i
/-- within circle o, j turns done -/
structure Sp2 (W s : Nat) (m : Int) (f : Nat → Int) (o j : Nat) (e : Nat → Int) (t0 t : Nat → Int) : Prop where
  p : Pass (W / Nat.gcd s W) m (fun i => f ((o + i * s) % W)) e j
  at_ : ∀ i, i < W / Nat.gcd s W → t ((o + i * s) % W) = vl (W / Nat.gcd s W) (fun i => f ((o + i * s) % W)) e j i
  rest : ∀ ρ, ρ < W → ρ % Nat.gcd s W ≠ o → t ρ = t0 ρ
variable {m : Int} {f t t0 : Nat → Int} {k o j : Nat} {e : Nat → Int}
theorem circ_pos (hW : 0 < W) : 0 < W / Nat.gcd s W := Nat.div_pos (Nat.le_of_dvd hW (Nat.gcd_dvd_right s W)) (Nat.gcd_pos_of_pos_right _ hW)
theorem Sp1.start (h : Sp1 W s m f k t) (hW : 0 < W) (hk : k < Nat.gcd s W) : Sp2 W s m f k 0 (fun _ => t k) t t := by
  have hkW : k < W := Nat.lt_of_lt_of_le hk (Nat.le_of_dvd hW (Nat.gcd_dvd_right s W))
  have ek : t k = f k := h.old k hkW (by rw [Nat.mod_eq_of_lt hk]; exact Nat.le_refl _)
  have e0 : (k + 0 * s) % W = k := by rw [Nat.zero_mul, Nat.add_zero, Nat.mod_eq_of_lt hkW]
  refine ⟨⟨?_, fun j h0 hj => by omega⟩, fun i hi => ?_, fun _ _ _ => rfl⟩
  · show t k = f ((k + 0 * s) % W)
    rw [e0]
    exact ek
  · rw [vl_zero (circ_pos hW) (by show t k = f ((k + 0 * s) % W); rw [e0]; exact ek)]
    exact h.old _ (Nat.mod_lt _ hW) (by rw [circ_mod hW hk]; exact Nat.le_refl _)
theorem Sp2.cur (h : Sp2 W s m f o j e t0 t) (hW : 0 < W) (hj : j + 1 ≤ 2 * (W / Nat.gcd s W) - 2) : t ((o + (j + 1) * s) % W) = cur_ (W / Nat.gcd s W) (fun i => f ((o + i * s) % W)) e (j + 1) := by
  have hc := circ_pos (s := s) hW
  rw [← vl_cur hc h.p.z hj, ← h.at_ _ (Nat.mod_lt _ hc)]
  congr 1
  exact circ_idx hW (by rw [Nat.mod_mod])
theorem Sp2.step (h : Sp2 W s m f o j e t0 t) (hW : 0 < W) (ho : o < Nat.gcd s W) (hj : j + 1 ≤ 2 * (W / Nat.gcd s W) - 2) {v : Int} (hv : (v = e j + m ∧ e j + m ≤ t ((o + (j + 1) * s) % W)) ∨ (v = t ((o + (j + 1) * s) % W) ∧ t ((o + (j + 1) * s) % W) ≤ e j + m))
    {t' : Nat → Int} (h1 : t' ((o + (j + 1) * s) % W) = v) (h2 : ∀ ρ, ρ < W → ρ ≠ (o + (j + 1) * s) % W → t' ρ = t ρ) : Sp2 W s m f o (j + 1) (ext_ e (j + 1) v) t0 t' := by
  have hc := circ_pos (s := s) hW
  rw [h.cur hW hj] at hv
  refine ⟨h.p.ext hv hc, fun i hi => ?_, fun ρ hρ ne => ?_⟩
  · rw [vl_step hc hj hi]
    by_cases c : i = (j + 1) % (W / Nat.gcd s W)
    · rw [if_pos c]
      have : (o + i * s) % W = (o + (j + 1) * s) % W := circ_idx hW (by rw [c, Nat.mod_mod])
      rw [this, h1]
    · rw [if_neg c, ← h.at_ i hi]
      refine h2 _ (Nat.mod_lt _ hW) fun z => c ?_
      have : (o + (j + 1) * s) % W = (o + ((j + 1) % (W / Nat.gcd s W)) * s) % W := circ_idx hW (by rw [Nat.mod_mod])
      rw [this] at z
      exact circ_inj hW hi (Nat.mod_lt _ hc) z
  · rw [h2 ρ hρ fun z => ne (by rw [z]; exact circ_mod hW ho)]
    exact h.rest ρ hρ ne
theorem Sp2.done (h : Sp2 W s m f o (2 * (W / Nat.gcd s W) - 2) e t0 t) (hW : 0 < W) (ho : o < Nat.gcd s W) (g : Sp1 W s m f o t0) : Sp1 W s m f (o + 1) t := by
  have hc := circ_pos (s := s) hW
  refine ⟨fun ρ hρ hk => ?_, fun q hq => ?_⟩
  · rw [h.rest ρ hρ (by omega)]
    exact g.old ρ hρ (by omega)
  · rcases Nat.lt_succ_iff_lt_or_eq.mp hq with hq | rfl
    · obtain ⟨e', p', a'⟩ := g.new q hq
      refine ⟨e', p', fun i hi => ?_⟩
      rw [h.rest _ (Nat.mod_lt _ hW) (by rw [circ_mod hW (by omega)]; omega)]
      exact a' i hi
    · exact ⟨e, h.p, fun i hi => by rw [h.at_ i hi, vl_fin hc hi]⟩
theorem Sp1.init : Sp1 W s m f 0 f := ⟨fun _ _ _ => rfl, fun o h => absurd h (Nat.not_lt_zero _)⟩
theorem Sp1.spr {w : Nat} (h : Sp1 W (w % W) m f (Nat.gcd (w % W) W) t) (hW : 0 < W) (hm : 0 ≤ m) : Spr W w m f t := by
  have hc := circ_pos (s := w % W) hW
  have g0 : 0 < Nat.gcd (w % W) W := Nat.gcd_pos_of_pos_right _ hW
  have stepW : ∀ x : Nat, ∀ i : Nat, (x + i * (w % W)) % W = (x + i * w) % W := fun x i => by
    rw [Nat.add_mod, Nat.mul_mod, Nat.mod_mod, ← Nat.mul_mod, ← Nat.add_mod]
  refine ⟨fun ρ hρ => ?_, fun ρ hρ => ?_, fun ρ hρ => ?_⟩
  · obtain ⟨i, hi, ei⟩ := circ_all (s := w % W) hW hρ
    obtain ⟨e, p, a⟩ := h.new (ρ % Nat.gcd (w % W) W) (Nat.mod_lt _ g0)
    obtain ⟨J, l1, l2, mJ, eJ⟩ := p.fin hc hi
    have b := p.le hc J l1 0 (Nat.zero_le _)
    rw [Nat.sub_zero, mJ, Int.natCast_zero, Int.zero_mul, Int.add_zero, ← eJ, ← a i hi] at b
    have b' : t ((ρ % Nat.gcd (w % W) W + i * (w % W)) % W) ≤ f ((ρ % Nat.gcd (w % W) W + i * (w % W)) % W) := b
    rw [ei] at b'
    exact b'
  · obtain ⟨i, hi, ei⟩ := circ_all (s := w % W) hW hρ
    obtain ⟨e, p, a⟩ := h.new (ρ % Nat.gcd (w % W) W) (Nat.mod_lt _ g0)
    have b := p.closed hc hm hi
    rw [← a i hi, ← a _ (Nat.mod_lt _ hc), ei] at b
    have e2 : (ρ % Nat.gcd (w % W) W + (i + 1) % (W / Nat.gcd (w % W) W) * (w % W)) % W = (ρ + w) % W := by
      rw [circ_idx hW (x := (i + 1) % (W / Nat.gcd (w % W) W)) (y := i + 1) (Nat.mod_mod _ _), Nat.succ_mul, ← Nat.add_assoc, Nat.add_mod, ei, Nat.mod_mod, Nat.add_mod ρ w, Nat.mod_eq_of_lt hρ]
    rw [e2] at b
    exact b
  · obtain ⟨i, hi, ei⟩ := circ_all (s := w % W) hW hρ
    obtain ⟨e, p, a⟩ := h.new (ρ % Nat.gcd (w % W) W) (Nat.mod_lt _ g0)
    obtain ⟨J, l1, l2, mJ, eJ⟩ := p.fin hc hi
    obtain ⟨k, hk, ek⟩ := p.at_ hc J l1
    refine ⟨k, (ρ % Nat.gcd (w % W) W + ((J - k) % (W / Nat.gcd (w % W) W)) * (w % W)) % W, ?_, Nat.mod_lt _ hW, ?_, ?_⟩
    · have : W / Nat.gcd (w % W) W ≤ W := Nat.div_le_self _ _
      omega
    · rw [Nat.mod_add_mod, ← stepW, Nat.add_assoc, ← Nat.add_mul]
      have : (ρ % Nat.gcd (w % W) W + ((J - k) % (W / Nat.gcd (w % W) W) + k) * (w % W)) % W = (ρ % Nat.gcd (w % W) W + i * (w % W)) % W := circ_idx hW (by
        rw [Nat.mod_add_mod, Nat.sub_add_cancel hk, mJ, Nat.mod_eq_of_lt hi])
      rw [this, ei]
    · have := a i hi
      rw [ei] at this
      rw [this, eJ, ek]
end
end Ev

/-! What a side keeps: its steps, near sums, far sums; how near sums are lengthened. -/
namespace Ev
open PySem PySem.Spec PyProof.Rows L2
section
variable {us vs ds : List (Int × Int)} {r W : Nat} {T : Int}
theorem least_uniq {n x y : Int} (h : Least us ds n x) (g : Least us ds n y) : x = y := by
  have := h.2 y g.1
  have := g.2 x h.1
  omega
theorem least_ex (hW : 0 < W) (hu : ∀ s ∈ us, T * s.1 ≤ s.2 * W) (hd : ∀ s ∈ ds, 0 ≤ s.2 * W + T * s.1) {n y : Int} (h : Wg us ds n y) : ∃ x, Least us ds n x := by
  have key : ∀ (k : Nat) (y : Int), Wg us ds n y → y * W - T * n < k → ∃ x, Least us ds n x := by
    intro k
    induction k with
    | zero =>
      intro y hy lt
      have := excess (W := (W : Int)) (T := T) (by omega) hu hd hy
      rw [Int.natCast_zero] at lt
      omega
    | succ k ih =>
      intro y hy lt
      by_cases c : ∃ z, Wg us ds n z ∧ z < y
      · obtain ⟨z, hz, lz⟩ := c
        refine ih z hz ?_
        have : (z + 1) * (W : Int) ≤ y * W := Int.mul_le_mul_of_nonneg_right (by omega) (by omega)
        rw [Int.add_mul, Int.one_mul] at this
        rw [Int.natCast_add, Int.natCast_one] at lt
        omega
      · exact ⟨y, hy, fun z hz => Int.not_lt.mp fun l => c ⟨z, hz, l⟩⟩
  exact key ((y * W - T * n).toNat + 1) y h (by omega)
/-- the steps of a least way are worth what their days have at most: those that are not may be left out -/
theorem least_kept (h1 : ∀ s ∈ vs, s ∈ us) (h2 : ∀ s ∈ us, Least us ds s.1 s.2 → s ∈ vs) {n x : Int} (h : Least us ds n x) : Least vs ds n x := by
  obtain ⟨⟨U, D, a1, a2, a3, a4⟩, hl⟩ := h
  refine ⟨⟨U, D, fun s hs => h2 s (a1 s hs) ?_, a2, a3, a4⟩, fun y hy => hl y ?_⟩
  · have w := wg_less a1 a2 hs
    rw [a3, a4] at w
    have e : Least us ds (s.1 + (n - s.1)) (s.2 + (x - s.2)) := by
      rw [show s.1 + (n - s.1) = n by omega, show s.2 + (x - s.2) = x by omega]
      exact ⟨⟨U, D, a1, a2, a3, a4⟩, hl⟩
    exact (least_add e (Wg.fwd (a1 s hs)) w).1
  · obtain ⟨U', D', b1, b2, b3, b4⟩ := hy
    exact ⟨U', D', fun s hs => h1 s (b1 s hs), b2, b3, b4⟩
/-- what a side keeps of its steps -/
structure SideM (vs ds : List (Int × Int)) (r W : Nat) (T : Int) : Prop where
  nu : ∀ s ∈ vs, 1 ≤ s.1 ∧ s.1 ≤ r
  nd : ∀ s ∈ ds, 1 ≤ s.1 ∧ s.1 ≤ r
  hW : 0 < W
  hs : ((W : Int), T) ∈ vs
  ht : ∀ s ∈ vs, T * s.1 ≤ s.2 * W
  hd : ∀ s ∈ ds, 0 ≤ s.2 * W + T * s.1
  bu : ∀ s ∈ vs, s.2.natAbs ≤ 10 ^ 6
  lu : vs.length ≤ 40
  lr : r ≤ 100
theorem SideM.Wr (m : SideM vs ds r W T) : W ≤ r := by
  have := (m.nu _ m.hs).2
  have : ((W : Int), T).1 ≤ r := this
  omega
def NearOk (vs ds : List (Int × Int)) (r : Nat) (xs : List Int) : Prop := r + 1 ≤ xs.length ∧ ∀ (n : Nat) (x : Int), xs[n]? = some x → Least vs ds n x
theorem way_ex (m : SideM vs ds r W T) {xs : List Int} (h : NearOk vs ds r xs) (n : Nat) : ∃ y, Wg vs ds n y := by
  have l : n % W < xs.length := by
    have := Nat.mod_lt n m.hW
    have := m.Wr
    have := h.1
    omega
  have a := h.2 (n % W) _ (List.getElem?_eq_getElem l)
  have w := far_least (W := (W : Int)) (T := T) (by have := m.hW; omega) m.hs a.1 (n / W)
  have e : ((n % W : Nat) : Int) + ((n / W : Nat) : Int) * (W : Int) = n := by
    rw [← Int.natCast_mul, ← Int.natCast_add]
    congr 1
    rw [Nat.mul_comm]
    exact Nat.mod_add_div n W
  rw [e] at w
  exact ⟨_, w⟩
theorem least_all (m : SideM vs ds r W T) {xs : List Int} (h : NearOk vs ds r xs) (n : Nat) : ∃ y, Least vs ds n y := by
  obtain ⟨y, hy⟩ := way_ex m h n
  exact least_ex m.hW m.ht m.hd hy
/-- one more length, by what stands there for fewer -/
theorem len_step (m : SideM vs ds r W T) {xs : List Int} (h : NearOk vs ds r xs) {i : Nat} (hi : ∀ s ∈ vs, (s.1 * W > xs.length ∨ s.1 = W) → (i : Int) < s.1) {x : Int}
    (h1 : ∃ s ∈ vs, ∃ y, xs[xs.length + i - s.1.toNat]? = some y ∧ x = y + s.2) (h2 : ∀ s ∈ vs, (s.1 * W > xs.length ∨ s.1 = W) → ∀ y, xs[xs.length + i - s.1.toNat]? = some y → x ≤ y + s.2) : Least vs ds ((xs.length + i : Nat) : Int) x := by
  have hW := m.hW
  have ge := h.1
  constructor
  · obtain ⟨s, hs, y, hy, rfl⟩ := h1
    have ns := m.nu s hs
    have l := h.2 _ _ hy
    have := l.1.add (Wg.fwd hs)
    have e : ((xs.length + i - s.1.toNat : Nat) : Int) + s.1 = ((xs.length + i : Nat) : Int) := by omega
    rw [e] at this
    exact this
  · intro y hy
    obtain ⟨x0, hx0⟩ := least_ex m.hW m.ht m.hd hy
    obtain ⟨s, hs, cond, ls, lr⟩ := least_last m.nu m.nd m.hW m.hs m.ht hx0 (by omega)
    have ns := m.nu s hs
    have cond' : s.1 * W > xs.length ∨ s.1 = W := by
      rcases cond with c | c
      · left
        omega
      · exact .inr c
    have hi' := hi s hs cond'
    have il : xs.length + i - s.1.toNat < xs.length := by omega
    have e := h2 s hs cond' _ (List.getElem?_eq_getElem il)
    have l := h.2 _ _ (List.getElem?_eq_getElem il)
    have ei : ((xs.length + i - s.1.toNat : Nat) : Int) = ((xs.length + i : Nat) : Int) - s.1 := by omega
    rw [ei] at l
    have := least_uniq l lr
    have := hx0.2 y hy
    omega
theorem near_more {xs ys : List Int} (h : NearOk vs ds r xs) (g : ∀ (i : Nat) (y : Int), ys[i]? = some y → Least vs ds ((xs.length + i : Nat) : Int) y) : NearOk vs ds r (xs ++ ys) := by
  refine ⟨by rw [List.length_append]; have := h.1; omega, fun n x e => ?_⟩
  by_cases c : n < xs.length
  · rw [List.getElem?_append_left c] at e
    exact h.2 n x e
  · rw [List.getElem?_append_right (by omega)] at e
    have := g _ _ e
    rw [show xs.length + (n - xs.length) = n by omega] at this
    exact this
/-- the far sums: by the rest of the days, from some days on -/
structure FarOk (vs ds : List (Int × Int)) (r W : Nat) (T : Int) (fr sn : List Int) : Prop where
  lf : fr.length = W
  ls : sn.length = W
  far : ∀ (n : Nat) (f s : Int), fr[n % W]? = some f → sn[n % W]? = some s → s ≤ n → Least vs ds n (f + ((n / W : Nat) : Int) * T)
  low : ∀ s ∈ sn, 0 ≤ s ∧ s ≤ 10 ^ 6
def sizeOf_ (W k r : Nat) : Nat := (2 * W * k + 1) * (r + 1)
theorem size_big {k : Nat} (hk : 0 < k) : r + k * (2 * W * r) < sizeOf_ W k r ∧ r + W * r < sizeOf_ W k r := by
  unfold sizeOf_
  have e : (2 * W * k + 1) * (r + 1) = k * (2 * W * r) + 2 * W * k + r + 1 := by
    rw [Nat.add_mul, Nat.one_mul, Nat.mul_succ, Nat.mul_comm k (2 * W * r), Nat.mul_right_comm (2 * W) k r, ← Nat.add_assoc]
  rw [e]
  refine ⟨by omega, ?_⟩
  have : W * r ≤ k * (2 * W * r) := by
    have a : 1 * (W * r) ≤ k * (W * r) := Nat.mul_le_mul_right _ hk
    have b : k * (W * r) ≤ k * (2 * W * r) := Nat.mul_le_mul_left _ (by rw [Nat.mul_assoc]; omega)
    omega
  omega
theorem TI.init {xs : List Int} (h : NearOk vs ds r xs) (lx : xs.length = r + 1) (m : SideM vs ds r W T) {S : Int} (hS : 0 < S) {f : Nat → Int}
    (h1 : ∀ ρ, ρ < W → ∃ (n : Nat) (x : Int), xs[n]? = some x ∧ n % W = ρ ∧ f ρ = (x * W - T * n) * S + n)
    (h2 : ∀ (n : Nat) (x : Int), xs[n]? = some x → f (n % W) ≤ (x * W - T * n) * S + n) : TI vs ds r W T S [] f := by
  refine ⟨fun ρ hρ => ?_, fun p y hp hy => ?_, fun s hs => (by cases hs)⟩
  · obtain ⟨n, x, e, em, ef⟩ := h1 ρ hρ
    have := (List.getElem?_eq_some_iff.mp e).1
    exact ⟨n, x, (h.2 n x e).1, em, by simp; omega, ef⟩
  · have l : p < xs.length := by omega
    have e := List.getElem?_eq_getElem l
    have a := (h.2 p _ e).2 y hy
    have b := h2 p _ e
    have c : (xs[p] * W - T * p) * S ≤ (y * W - T * p) * S := Int.mul_le_mul_of_nonneg_right (by
      have : xs[p] * (W : Int) ≤ y * W := Int.mul_le_mul_of_nonneg_right a (by omega)
      omega) (by omega)
    omega
theorem far_ok (m : SideM vs ds r W T) {xs : List Int} (hn : NearOk vs ds r xs) {f : Nat → Int} (h : TI vs ds r W T (sizeOf_ W vs.length r : Nat) vs f) {fr sn : List Int} (lf : fr.length = W) (ls : sn.length = W)
    (hf : ∀ ρ, ρ < W → fr[ρ]? = some ((f ρ / (sizeOf_ W vs.length r : Nat) + T * (ρ : Int)) / W)) (hs : ∀ ρ, ρ < W → sn[ρ]? = some (f ρ % (sizeOf_ W vs.length r : Nat))) : FarOk vs ds r W T fr sn := by
  have k0 : 0 < vs.length := List.length_pos_of_mem m.hs
  obtain ⟨b1, b2⟩ := size_big (r := r) (W := W) k0
  have tab := h.tab m.hW m.nu (by omega)
  have S0 : 0 < sizeOf_ W vs.length r := by omega
  refine ⟨lf, ls, fun n g s eg es le => ?_, fun s hs' => ?_⟩
  · have hρ := Nat.mod_lt n m.hW
    rw [hf _ hρ] at eg
    rw [hs _ hρ] at es
    cases eg
    cases es
    exact tab.far m.nu m.nd m.hW m.hs m.ht (by have : ((r + W * r : Nat) : Int) < (sizeOf_ W vs.length r : Nat) := Int.ofNat_lt.mpr b2; rw [Int.natCast_add, Int.natCast_mul] at this; exact this) le
  · obtain ⟨i, hi⟩ := List.getElem?_of_mem hs'
    have il : i < W := by rw [← ls]; exact (List.getElem?_eq_some_iff.mp hi).1
    rw [hs i il] at hi
    cases hi
    have a := Int.emod_nonneg (f i) (show ((sizeOf_ W vs.length r : Nat) : Int) ≠ 0 by omega)
    have b := Int.emod_lt_of_pos (f i) (show (0 : Int) < (sizeOf_ W vs.length r : Nat) by omega)
    have c : sizeOf_ W vs.length r ≤ 10 ^ 6 := by
      unfold sizeOf_
      have d1 : 2 * W * vs.length ≤ 200 * 40 := Nat.mul_le_mul (by have := m.Wr; have := m.lr; omega) m.lu
      have d2 : (2 * W * vs.length + 1) * (r + 1) ≤ 8001 * 101 := Nat.mul_le_mul (by omega) (by have := m.lr; omega)
      omega
    omega
end
end Ev

/-! What sums_of puts together. -/
namespace Ev
open PySem PySem.Spec PyProof.Rows L2
section
variable {us us' ds ds' vs : List (Int × Int)} {r W : Nat} {T : Int}
/-- the steps that are left tell the others -/
structure Kept (us ds us' ds' : List (Int × Int)) : Prop where
  su : ∀ s ∈ us', s ∈ us
  sd : ∀ s ∈ ds', s ∈ ds
  hu : ∀ s ∈ us, ∃ x, x ≤ s.2 ∧ Wg us' ds' s.1 x
  hd : ∀ s ∈ ds, ∃ x, x ≤ s.2 ∧ Wg us' ds' (-s.1) x
theorem Wg.mono {n x : Int} (h : Wg us' ds' n x) (su : ∀ s ∈ us', s ∈ us) (sd : ∀ s ∈ ds', s ∈ ds) : Wg us ds n x := by
  obtain ⟨U, D, h1, h2, h3, h4⟩ := h
  exact ⟨U, D, fun s hs => su s (h1 s hs), fun s hs => sd s (h2 s hs), h3, h4⟩
theorem Kept.least (k : Kept us ds us' ds') {n x : Int} (h : Least us' ds' n x) : Least us ds n x := by
  refine ⟨h.1.mono k.su k.sd, fun y hy => ?_⟩
  obtain ⟨z, l, w⟩ := wg_kept k.hu k.hd hy
  have := h.2 z w
  omega
theorem Kept.swap (k : Kept us ds us' ds') : Kept ds us ds' us' := by
  refine ⟨k.sd, k.su, fun s hs => ?_, fun s hs => ?_⟩
  · obtain ⟨x, l, w⟩ := k.hd s hs
    have := w.swap
    rw [Int.neg_neg] at this
    exact ⟨x, l, this⟩
  · obtain ⟨x, l, w⟩ := k.hu s hs
    exact ⟨x, l, w.swap⟩
theorem least_swap {n x : Int} (h : Least us ds n x) : Least ds us (-n) x := ⟨h.1.swap, fun y hy => h.2 y (by have := hy.swap; rw [Int.neg_neg] at this; exact this)⟩
theorem kept_of {W1 T1 d1 b1 W2 T2 d2 b2 : Int} (h1 : NI us W1 T1 d1 b1 us.length us') (h2 : NI ds W2 T2 d2 b2 ds.length ds') (p1 : 0 < W1) (p2 : 0 < W2) (e1 : d2 ≤ b1) (e2 : d1 ≤ b2) (n1 : ∀ m ∈ us, 0 ≤ m.1) (n2 : ∀ m ∈ ds, 0 ≤ m.1) : Kept us ds us' ds' := by
  obtain ⟨s1, m1, w1, v1⟩ := h1.b
  obtain ⟨s2, m2, w2, v2⟩ := h2.b
  have i1 : ((1 : Int), s1.2) ∈ us' := by rw [← w1]; exact m1
  have i2 : ((1 : Int), s2.2) ∈ ds' := by rw [← w2]; exact m2
  refine ⟨h1.a, h2.a, h1.tells p1 i2 (by omega) n1, fun s hs => ?_⟩
  obtain ⟨x, l, w⟩ := h2.tells p2 i1 (by omega) n2 s hs
  exact ⟨x, l, w.swap⟩
/-- what a side makes of its near sums and its steps -/
theorem side_ok (nu : ∀ s ∈ us, 1 ≤ s.1 ∧ s.1 ≤ r) (nd : ∀ s ∈ ds, 1 ≤ s.1 ∧ s.1 ≤ r) (lr : r ≤ 100) (lu : us.length ≤ 40) (bu : ∀ s ∈ us, s.2.natAbs ≤ 10 ^ 6) (rows : ∀ s ∈ ds, ∀ u ∈ us, 0 ≤ s.2 * u.1 + u.2 * s.1)
    {W0 : Nat} {T0 : Int} (hW0 : 0 < W0) (h0 : ((W0 : Int), T0) ∈ us) (ht0 : ∀ s ∈ us, T0 * s.1 ≤ s.2 * W0) {xs : List Int} (no : NearOk us ds r xs) (lx : xs.length = r + 1)
    (hvs : vs = us.filter fun m => decide (xs[m.1.toNat]? = some m.2)) (hs : ((W : Int), T) ∈ vs) (ht : ∀ s ∈ vs, T * s.1 ≤ s.2 * W) : SideM vs ds r W T ∧ NearOk vs ds r xs ∧ ∀ n x, Least vs ds n x → Least us ds n x := by
  have sub : ∀ s ∈ vs, s ∈ us := fun s h => by rw [hvs] at h; exact (List.mem_filter.mp h).1
  have hd0 : ∀ s ∈ ds, 0 ≤ s.2 * W0 + T0 * s.1 := fun s h => rows s h _ h0
  have back : ∀ s ∈ us, Least us ds s.1 s.2 → s ∈ vs := fun s hs l => by
    have ns := nu s hs
    rw [hvs]
    refine List.mem_filter.mpr ⟨hs, decide_eq_true ?_⟩
    have il : s.1.toNat < xs.length := by omega
    have := no.2 _ _ (List.getElem?_eq_getElem il)
    rw [Int.toNat_of_nonneg (by omega)] at this
    rw [List.getElem?_eq_getElem il, least_uniq this l]
  have nW : 1 ≤ ((W : Int), T).1 ∧ ((W : Int), T).1 ≤ r := nu _ (sub _ hs)
  have nW1 : 1 ≤ (W : Int) := nW.1
  refine ⟨⟨fun s h => nu s (sub s h), nd, by omega, hs, ht, fun s h => rows s h _ (sub _ hs), fun s h => bu s (sub s h), by rw [hvs]; exact Nat.le_trans (List.length_filter_le _ _) lu, lr⟩,
    ⟨no.1, fun n x e => least_kept sub back (no.2 n x e)⟩, fun n x h => ?_⟩
  obtain ⟨y, hy⟩ := least_ex hW0 ht0 hd0 (h.1.mono sub fun s h => h)
  have := least_kept sub back hy
  rw [least_uniq h this]
  exact hy
theorem near_bound (nd : ∀ s ∈ ds, 1 ≤ s.1) {W0 : Nat} {T0 : Int} (hW0 : 0 < W0) (wr : W0 ≤ 100) (bT : T0.natAbs ≤ 10 ^ 6) (ht0 : ∀ s ∈ us, T0 * s.1 ≤ s.2 * W0) (hd0 : ∀ s ∈ ds, 0 ≤ s.2 * W0 + T0 * s.1) {d : Int} (hd : ((1 : Int), d) ∈ us) (bd : d.natAbs ≤ 10 ^ 6)
    {n : Nat} (hn : n ≤ 100) {x : Int} (h : Least us ds n x) : x.natAbs ≤ 10 ^ 9 := by
  have up := h.2 (n * d) (by
    have := Wg.rep (ds := ds) hd n
    rw [show (n : Int) * ((1 : Int), d).1 = n by show (n : Int) * 1 = n; omega] at this
    exact this)
  have lo := excess (W := (W0 : Int)) (T := T0) (by omega) ht0 hd0 h.1
  have b1 : (n * d : Int).natAbs ≤ 100 * 10 ^ 6 := by rw [Int.natAbs_mul]; exact Nat.mul_le_mul (by omega) bd
  have b2 : (T0 * n : Int).natAbs ≤ 10 ^ 6 * 100 := by rw [Int.natAbs_mul]; exact Nat.mul_le_mul bT (by omega)
  by_cases c : 0 ≤ x
  · omega
  · have : x * (W0 : Int) ≤ x * 1 := Int.mul_le_mul_of_nonpos_left (by omega) (by omega)
    omega
end
end Ev

/-! Readings of comprehensions over steps, numbers, rows. -/
namespace Ev
open PySem PySem.Spec PyProof.Rows L2
theorem sqL_keep {K : PySem.W.Frag} {H H' : Hp} {a : Addr} {xs : List V} (h : SqL K H a xs) (e : Same H H') : SqL K H' a xs :=
  h.elim (fun h => .inl (h.elim (fun h => .inl (e _ _ h)) fun ⟨o, h⟩ => .inr ⟨o, e _ _ h⟩)) fun h => .inr h
section
variable {σ : L2.St} {H : Hp} {K : PySem.W.Frag}
theorem rd_cb1 {r : List V → Hp → VK → Prop} {ta : TA} {Q : VK} (h : ta σ H fun vs H1 => r vs H1 Q) : tCB r ta σ H Q := h
theorem rd_truL {te : TE} {Q : Bool → Hp → Prop} (h : te σ H fun x H' => ∃ a xs, x = .ref a ∧ H' a = some (.lst xs) ∧ Q (!xs.isEmpty) H') : tTruL te σ H Q := h
theorem rd_max {a : Addr} {ns : List Int} {Q : VK} (h : SqL K H a (ns.map V.int)) (hn : 0 < ns.length) (q : ∀ m, m ∈ ns → (∀ y, y ∈ ns → y ≤ m) → Q (.int m) H) : rMax K [.ref a] H Q := ⟨a, ns, rfl, h, hn, q⟩
/-- a list of moves: tuples of two numbers -/
def MvL (H : Hp) (L : List V) (ms : List (Int × Int)) : Prop := L.length = ms.length ∧ ∀ (i : Nat) (v : V), L[i]? = some v → ∃ (a : Addr) (r : Int × Int), v = .ref a ∧ ms[i]? = some r ∧ H a = some (.tup [.int r.1, .int r.2])
theorem MvL.mono {H H' : Hp} {L : List V} {ms : List (Int × Int)} (h : MvL H L ms) (s : Same H H') : MvL H' L ms := ⟨h.1, fun i v e => by
  obtain ⟨a, r, h1, h2, h3⟩ := h.2 i v e
  exact ⟨a, r, h1, h2, s _ _ h3⟩⟩
/-- [f(m) for _, m in moves], numbers -/
theorem rd_lcM {a : Addr} {L : List V} {ms : List (Int × Int)} {m s1 s2 : Nat} {te : TE} {Q : VK} (f : Int × Int → Int) (hL : SqL K H a L) (hM : MvL H L ms) (hn : L.length ≤ 1000) (hm : m = 2)
    (hw : ∀ x y : V, L2.wipe (((L2.wipe σ [s1, s2]).set s1 (some x)).set s2 (some y)) [s1, s2] = L2.wipe σ [s1, s2])
    (he : ∀ (r : Int × Int) (H' : Hp) (Q' : VK), r ∈ ms → Same H H' → Q' (.int (f r)) H' → te (((L2.wipe σ [s1, s2]).set s1 (some (.int r.1))).set s2 (some (.int r.2))) H' Q')
    (q : ∀ (l : Addr) (H' : Hp), Same H H' → H l = none → H' l = some (.lst ((ms.map f).map V.int)) → Q (.ref l) H') :
    tLc (fun _ H' R => R (Itl K a) H') (gTup K m (gCons (gName s1) (gCons (gName s2) gNil))) tYes te [s1, s2] σ H Q := fun l hl => by
  subst hm
  refine lc_list (xs := L) (fun i H' => Same H H' ∧ H' l = some (.lst (((ms.take i).map f).map V.int))) ⟨Same.new hl, upd_same⟩ (fun i H' _ h => sqL_keep hL h.1) (fun i x H' hx h => ?_) (fun H' h => ?_)
  · obtain ⟨sm, hacc⟩ := h
    obtain ⟨b, r, rfl, hr, hb⟩ := hM.2 i x hx
    refine ⟨b, _, rfl, SqT.of (sm _ _ hb), rfl, _, _, rfl, _, _, rfl, rfl, hw _ _, ?_⟩
    dsimp only [tYes]
    rw [if_pos rfl]
    refine he r H' _ (List.mem_of_getElem? hr) sm ⟨_, hacc, ?_, fun c o z => ?_, ?_⟩
    · rw [List.length_map, List.length_map, List.length_take, sizeLine_eq]
      have := hM.1
      omega
    · rw [upd_ne (ne_of_none z hl)]
      exact sm _ _ z
    · rw [upd_same, List.take_add_one, hr, List.map_append, List.map_append]
      rfl
  · obtain ⟨sm, hacc⟩ := h
    refine q l H' sm hl ?_
    rw [hacc, hM.1, List.take_length]
end
theorem cutV_head {xs : List V} {k : Nat} : cutV xs none (some (k : Int)) = xs.take k := by
  unfold cutV
  rw [HT.sIx_none, HT.sIx_nat, List.drop_zero, Nat.sub_zero]
  by_cases h : k ≤ xs.length
  · rw [Nat.min_eq_left h]
  · rw [Nat.min_eq_right (by omega), List.take_length, List.take_of_length_le (by omega)]
theorem atI_natR {α : Type} {xs : List α} {k : Nat} (h : k < xs.length) : atI xs (k : Int) = xs[k]? := by
  unfold atI ixN
  have e : (if (0 : Int) ≤ (k : Int) then (if (k : Int) < (xs.length : Int) then some (k : Int).toNat else none) else if -(xs.length : Int) ≤ (k : Int) then some ((k : Int) + xs.length).toNat else none) = some k := by
    rw [if_pos (by omega), if_pos (by omega), Int.toNat_natCast]
  rw [e]
  rfl
section
variable {K : PySem.W.Frag} {σ : L2.St} {H : Hp}
theorem MvL.append {L L' : List V} {ms ms' : List (Int × Int)} (h : MvL H L ms) (g : MvL H L' ms') : MvL H (L ++ L') (ms ++ ms') := by
  refine ⟨by rw [List.length_append, List.length_append, h.1, g.1], fun i v e => ?_⟩
  rw [List.getElem?_append] at e
  by_cases c : i < L.length
  · rw [if_pos c] at e
    obtain ⟨a, r, h1, h2, h3⟩ := h.2 i v e
    exact ⟨a, r, h1, by rw [List.getElem?_append_left (by rw [← h.1]; exact c)]; exact h2, h3⟩
  · rw [if_neg c] at e
    obtain ⟨a, r, h1, h2, h3⟩ := g.2 _ v e
    exact ⟨a, r, h1, by rw [List.getElem?_append_right (by rw [← h.1]; omega), ← h.1]; exact h2, h3⟩
/-- [f(step) for step in steps], numbers -/
theorem rd_lcS {a : Addr} {L : List V} {ms : List (Int × Int)} {s1 : Nat} {te : TE} {Q : VK} (f : Int × Int → Int) (hL : SqL K H a L) (hM : MvL H L ms) (hn : L.length ≤ 1000)
    (hw : ∀ x : V, L2.wipe ((L2.wipe σ [s1]).set s1 (some x)) [s1] = L2.wipe σ [s1])
    (he : ∀ (b : Addr) (r : Int × Int) (H' : Hp) (Q' : VK), r ∈ ms → Same H H' → H' b = some (.tup [.int r.1, .int r.2]) → Q' (.int (f r)) H' → te ((L2.wipe σ [s1]).set s1 (some (.ref b))) H' Q')
    (q : ∀ (l : Addr) (H' : Hp), Same H H' → H l = none → H' l = some (.lst ((ms.map f).map V.int)) → Q (.ref l) H') :
    tLc (fun _ H' R => R (Itl K a) H') (gName s1) tYes te [s1] σ H Q := fun l hl => by
  refine lc_list (xs := L) (fun i H' => Same H H' ∧ H' l = some (.lst (((ms.take i).map f).map V.int))) ⟨Same.new hl, upd_same⟩ (fun i H' _ h => sqL_keep hL h.1) (fun i x H' hx h => ?_) (fun H' h => ?_)
  · obtain ⟨sm, hacc⟩ := h
    obtain ⟨b, r, rfl, hr, hb⟩ := hM.2 i x hx
    refine ⟨hw _, ?_⟩
    dsimp only [tYes]
    rw [if_pos rfl]
    refine he b r H' _ (List.mem_of_getElem? hr) sm (sm _ _ hb) ⟨_, hacc, ?_, fun c o z => ?_, ?_⟩
    · rw [List.length_map, List.length_map, List.length_take, sizeLine_eq]
      have := hM.1
      omega
    · rw [upd_ne (ne_of_none z hl)]
      exact sm _ _ z
    · rw [upd_same, List.take_add_one, hr, List.map_append, List.map_append]
      rfl
  · obtain ⟨sm, hacc⟩ := h
    refine q l H' sm hl ?_
    rw [hacc, hM.1, List.take_length]
/-- [(.., ..) for w, t in steps], a list of steps -/
theorem rd_lcP {a : Addr} {L : List V} {ms : List (Int × Int)} {m s1 s2 : Nat} {te : TE} {Q : VK} (f : Int × Int → Int × Int) (hL : SqL K H a L) (hM : MvL H L ms) (hn : L.length ≤ 1000) (hm : m = 2)
    (hw : ∀ x y : V, L2.wipe (((L2.wipe σ [s1, s2]).set s1 (some x)).set s2 (some y)) [s1, s2] = L2.wipe σ [s1, s2])
    (he : ∀ (r : Int × Int) (H' : Hp) (Q' : VK), r ∈ ms → Same H H' → (∀ p, H' p = none → Q' (.ref p) (upd H' p (.tup [.int (f r).1, .int (f r).2]))) → te (((L2.wipe σ [s1, s2]).set s1 (some (.int r.1))).set s2 (some (.int r.2))) H' Q')
    (q : ∀ (l : Addr) (R : List V) (H' : Hp), Same H H' → H l = none → H' l = some (.lst R) → MvL H' R (ms.map f) → Q (.ref l) H') :
    tLc (fun _ H' R => R (Itl K a) H') (gTup K m (gCons (gName s1) (gCons (gName s2) gNil))) tYes te [s1, s2] σ H Q := fun l hl => by
  subst hm
  refine lc_list (xs := L) (fun i H' => ∃ acc, Same H H' ∧ H' l = some (.lst acc) ∧ MvL H' acc ((ms.take i).map f)) ⟨[], Same.new hl, upd_same, rfl, fun i v e => by simp at e⟩ (fun i H' _ h => by obtain ⟨_, s, _⟩ := h; exact sqL_keep hL s) (fun i x H' hx h => ?_) (fun H' h => ?_)
  · obtain ⟨acc, sm, hacc, hA⟩ := h
    obtain ⟨b, r, rfl, hr, hb⟩ := hM.2 i x hx
    refine ⟨b, _, rfl, SqT.of (sm _ _ hb), rfl, _, _, rfl, _, _, rfl, rfl, hw _ _, ?_⟩
    dsimp only [tYes]
    rw [if_pos rfl]
    refine he r H' _ (List.mem_of_getElem? hr) sm (fun p hp => ?_)
    have npl : l ≠ p := ne_of_none hacc hp
    refine ⟨acc, lk_ne npl hacc, ?_, acc ++ [.ref p], fun c o z => ?_, upd_same, ?_⟩
    · rw [hA.1, List.length_map, List.length_take, sizeLine_eq]
      have := hM.1
      omega
    · rw [upd_ne (ne_of_none z hl), upd_ne (ne_of_none (sm _ _ z) hp)]
      exact sm _ _ z
    · have e : (ms.take (i + 1)).map f = (ms.take i).map f ++ [f r] := by rw [List.take_add_one, hr, List.map_append]; rfl
      rw [e]
      have keep : ∀ (c : Addr) (u v : Int), H' c = some (.tup [.int u, .int v]) → upd (upd H' p (.tup [.int (f r).1, .int (f r).2])) l (.lst (acc ++ [.ref p])) c = some (.tup [.int u, .int v]) := fun c u v z => lk_ne (ne_of z hacc (fun w => by cases w)) (lk_ne (ne_of_none z hp) z)
      refine MvL.append ⟨hA.1, fun j v ej => ?_⟩ ⟨rfl, fun j v ej => ?_⟩
      · obtain ⟨c, s, h1, h2, h3⟩ := hA.2 j v ej
        exact ⟨c, s, h1, h2, keep _ _ _ h3⟩
      · cases j with
        | zero =>
          cases ej
          exact ⟨p, f r, rfl, rfl, lk_ne (Ne.symm npl) upd_same⟩
        | succ j => cases ej
  · obtain ⟨acc, sm, hacc, hA⟩ := h
    rw [hM.1, List.take_length] at hA
    exact q l acc H' sm hl hacc hA
/-- [f(i, x) for i, x in enumerate(xs)], numbers -/
theorem rd_lcN2 {a : Addr} {xs : List Int} {m s1 s2 : Nat} {te : TE} {Q : VK} (f : Nat → Int → Int) (hL : SqL K H a (xs.map V.int)) (hn : xs.length ≤ 1000) (hm : m = 2)
    (hw : ∀ x y : V, L2.wipe (((L2.wipe σ [s1, s2]).set s1 (some x)).set s2 (some y)) [s1, s2] = L2.wipe σ [s1, s2])
    (he : ∀ (i : Nat) (x : Int) (H' : Hp) (Q' : VK), xs[i]? = some x → Same H H' → Q' (.int (f i x)) H' → te (((L2.wipe σ [s1, s2]).set s1 (some (.int i))).set s2 (some (.int x))) H' Q')
    (q : ∀ (l : Addr) (ys : List Int) (H' : Hp), Same H H' → H l = none → H' l = some (.lst (ys.map V.int)) → ys.length = xs.length → (∀ i x, xs[i]? = some x → ys[i]? = some (f i x)) → Q (.ref l) H') :
    tLc (fun _ H' R => R (Ite K a) H') (gTup K m (gCons (gName s1) (gCons (gName s2) gNil))) tYes te [s1, s2] σ H Q := fun l hl => by
  subst hm
  refine lc_it (walk_enum (xs := xs.map V.int)) (fun i H' => ∃ ys : List Int, Same H H' ∧ H' l = some (.lst (ys.map V.int)) ∧ ys.length = i ∧ ∀ j x, j < i → xs[j]? = some x → ys[j]? = some (f j x)) ⟨[], Same.new hl, upd_same, rfl, fun j x h => absurd h (Nat.not_lt_zero _)⟩ (fun i H' _ h => by obtain ⟨_, s, _⟩ := h; exact sqL_keep hL s) (fun i v H1 H' hi h y => ?_) (fun H' h => ?_)
  · obtain ⟨ys, sm, hacc, hlen, hys⟩ := h
    obtain ⟨p, x, z, rfl, hp, rfl, ex, ez⟩ := y
    cases ex
    rw [List.length_map] at hi
    have ez' : (xs.map V.int)[i]? = some z := ez
    rw [List.getElem?_map, List.getElem?_eq_getElem hi] at ez'
    cases ez'
    have s2 : Same H1 (upd H1 p (.tup [V.int i, .int xs[i]])) := Same.new hp
    refine ⟨p, _, rfl, SqT.of upd_same, rfl, _, _, rfl, _, _, rfl, rfl, hw _ _, ?_⟩
    dsimp only [tYes]
    rw [if_pos rfl]
    refine he i xs[i] _ _ (List.getElem?_eq_getElem hi) (sm.trans s2) ⟨ys.map V.int, s2 _ _ hacc, by rw [List.length_map, sizeLine_eq]; omega, ys ++ [f i xs[i]], fun c o z => ?_, ?_, by rw [List.length_append, List.length_singleton, hlen], fun j x hj e => ?_⟩
    · rw [upd_ne (ne_of_none z hl)]
      exact s2 _ _ (sm _ _ z)
    · rw [upd_same, List.map_append]
      rfl
    · rcases Nat.lt_succ_iff_lt_or_eq.mp hj with h | rfl
      · rw [List.getElem?_append_left (by omega)]
        exact hys j x h e
      · rw [List.getElem?_eq_getElem hi] at e
        cases e
        rw [List.getElem?_append_right (by omega), hlen, Nat.sub_self]
        rfl
  · obtain ⟨ys, sm, hacc, hlen, hys⟩ := h
    rw [List.length_map] at hlen hys
    exact q l ys H' sm hl hacc hlen fun i x e => hys i x (List.getElem?_eq_some_iff.mp e).1 e
theorem rd_lcQ {ta : TA} {g : TG} {tt : TT} {te : TE} {vs : List Nat} {Q : VK} (h : ta σ H fun vs1 H1 => ∃ b ys, vs1 = [.ref b] ∧ SqL K H1 b ys ∧ tLc (fun _ H' R => R (Ite K b) H') g tt te vs σ H1 Q) : tLc (iEnum K ta) g tt te vs σ H Q := h
end
section
variable {σ : L2.St} {H : Hp} {K : PySem.W.Frag}
/-- [(w, t) for w, t in steps if p], a list of steps -/
theorem rd_lcF {a : Addr} {L : List V} {ms : List (Int × Int)} {m s1 s2 : Nat} {tt : TT} {te : TE} {Q : VK} (p : Int × Int → Bool) (hL : SqL K H a L) (hM : MvL H L ms) (hn : L.length ≤ 1000) (hm : m = 2)
    (hw : ∀ x y : V, L2.wipe (((L2.wipe σ [s1, s2]).set s1 (some x)).set s2 (some y)) [s1, s2] = L2.wipe σ [s1, s2])
    (ht : ∀ (r : Int × Int) (H' : Hp) (Q' : Bool → Hp → Prop), r ∈ ms → Same H H' → Q' (p r) H' → tt (((L2.wipe σ [s1, s2]).set s1 (some (.int r.1))).set s2 (some (.int r.2))) H' Q')
    (he : ∀ (r : Int × Int) (H' : Hp) (Q' : VK), r ∈ ms → p r = true → Same H H' → (∀ q, H' q = none → Q' (.ref q) (upd H' q (.tup [.int r.1, .int r.2]))) → te (((L2.wipe σ [s1, s2]).set s1 (some (.int r.1))).set s2 (some (.int r.2))) H' Q')
    (q : ∀ (l : Addr) (R : List V) (H' : Hp), Same H H' → H l = none → H' l = some (.lst R) → MvL H' R (ms.filter p) → Q (.ref l) H') :
    tLc (fun _ H' R => R (Itl K a) H') (gTup K m (gCons (gName s1) (gCons (gName s2) gNil))) tt te [s1, s2] σ H Q := fun l hl => by
  subst hm
  refine lc_list (xs := L) (fun i H' => ∃ acc, Same H H' ∧ H' l = some (.lst acc) ∧ MvL H' acc ((ms.take i).filter p)) ⟨[], Same.new hl, upd_same, rfl, fun i v e => by simp at e⟩ (fun i H' _ h => by obtain ⟨_, s, _⟩ := h; exact sqL_keep hL s) (fun i x H' hx h => ?_) (fun H' h => ?_)
  · obtain ⟨acc, sm, hacc, hA⟩ := h
    obtain ⟨b, r, rfl, hr, hb⟩ := hM.2 i x hx
    have mem := List.mem_of_getElem? hr
    have tk : ms.take (i + 1) = ms.take i ++ [r] := by rw [List.take_add_one, hr]; rfl
    refine ⟨b, _, rfl, SqT.of (sm _ _ hb), rfl, _, _, rfl, _, _, rfl, rfl, hw _ _, ?_⟩
    refine ht r H' _ mem sm ?_
    by_cases c : p r = true
    · rw [if_pos c]
      refine he r H' _ mem c sm (fun q hq => ?_)
      have npl : l ≠ q := ne_of_none hacc hq
      refine ⟨acc, lk_ne npl hacc, ?_, acc ++ [.ref q], fun c o z => ?_, upd_same, ?_⟩
      · have h1 := List.length_filter_le p (ms.take i)
        rw [hA.1, sizeLine_eq]
        rw [List.length_take] at h1
        have := hM.1
        omega
      · rw [upd_ne (ne_of_none z hl), upd_ne (ne_of_none (sm _ _ z) hq)]
        exact sm _ _ z
      · rw [tk, List.filter_append, List.filter_cons_of_pos c, List.filter_nil]
        have keep : ∀ (c : Addr) (u v : Int), H' c = some (.tup [.int u, .int v]) → upd (upd H' q (.tup [.int r.1, .int r.2])) l (.lst (acc ++ [.ref q])) c = some (.tup [.int u, .int v]) := fun c u v z => lk_ne (ne_of z hacc (fun w => by cases w)) (lk_ne (ne_of_none z hq) z)
        refine MvL.append ⟨hA.1, fun j v ej => ?_⟩ ⟨rfl, fun j v ej => ?_⟩
        · obtain ⟨c, s, h1, h2, h3⟩ := hA.2 j v ej
          exact ⟨c, s, h1, h2, keep _ _ _ h3⟩
        · cases j with
          | zero =>
            cases ej
            exact ⟨q, r, rfl, rfl, lk_ne (Ne.symm npl) upd_same⟩
          | succ j => cases ej
    · rw [if_neg c]
      refine ⟨acc, sm, hacc, ?_⟩
      rw [tk, List.filter_append, List.filter_cons_of_neg c, List.filter_nil, List.append_nil]
      exact hA
  · obtain ⟨acc, sm, hacc, hA⟩ := h
    rw [hM.1, List.take_length] at hA
    exact q l acc H' sm hl hacc hA
/-- [f(x) for x in numbers] -/
theorem rd_lcI {a : Addr} {xs : List Int} {s1 : Nat} {te : TE} {Q : VK} (f : Int → Int) (hL : SqL K H a (xs.map V.int)) (hn : xs.length ≤ 16777000)
    (hw : ∀ x : V, L2.wipe ((L2.wipe σ [s1]).set s1 (some x)) [s1] = L2.wipe σ [s1])
    (he : ∀ (x : Int) (H' : Hp) (Q' : VK), x ∈ xs → Same H H' → Q' (.int (f x)) H' → te ((L2.wipe σ [s1]).set s1 (some (.int x))) H' Q')
    (q : ∀ (l : Addr) (H' : Hp), Same H H' → H l = none → H' l = some (.lst ((xs.map f).map V.int)) → Q (.ref l) H') :
    tLc (fun _ H' R => R (Itl K a) H') (gName s1) tYes te [s1] σ H Q := fun l hl => by
  refine lc_list (xs := xs.map V.int) (fun i H' => Same H H' ∧ H' l = some (.lst (((xs.take i).map f).map V.int))) ⟨Same.new hl, upd_same⟩ (fun i H' _ h => sqL_keep hL h.1) (fun i x H' hx h => ?_) (fun H' h => ?_)
  · obtain ⟨sm, hacc⟩ := h
    rw [List.getElem?_map] at hx
    cases e : xs[i]? with
    | none => rw [e] at hx; cases hx
    | some z =>
      rw [e] at hx
      cases hx
      refine ⟨hw _, ?_⟩
      dsimp only [tYes]
      rw [if_pos rfl]
      refine he z H' _ (List.mem_of_getElem? e) sm ⟨_, hacc, ?_, fun c o z => ?_, ?_⟩
      · rw [List.length_map, List.length_map, List.length_take, sizeLine_eq]
        omega
      · rw [upd_ne (ne_of_none z hl)]
        exact sm _ _ z
      · rw [upd_same, List.take_add_one, e, List.map_append, List.map_append]
        rfl
  · obtain ⟨sm, hacc⟩ := h
    refine q l H' sm hl ?_
    rw [hacc, List.length_map, List.take_length]
/-- a list of lists of numbers -/
def RwL (H : Hp) (L : List V) (rs : List (List Int)) : Prop := L.length = rs.length ∧ ∀ (i : Nat) (v : V), L[i]? = some v → ∃ (a : Addr) (r : List Int), v = .ref a ∧ rs[i]? = some r ∧ H a = some (.lst (r.map V.int))
/-- [a new list of numbers for w, t in steps] -/
theorem rd_lcW {a : Addr} {L : List V} {ms : List (Int × Int)} {m s1 s2 : Nat} {vs : List Nat} {te : TE} {Q : VK} (f : Int × Int → List Int) (hL : SqL K H a L) (hM : MvL H L ms) (hn : L.length ≤ 1000) (hm : m = 2)
    (hw : ∀ x y : V, L2.wipe (((L2.wipe σ vs).set s1 (some x)).set s2 (some y)) vs = L2.wipe σ vs)
    (he : ∀ (r : Int × Int) (H' : Hp) (Q' : VK), r ∈ ms → Same H H' → (∀ (q : Addr) (H'' : Hp), Same H' H'' → H' q = none → H'' q = some (.lst ((f r).map V.int)) → Q' (.ref q) H'') → te (((L2.wipe σ vs).set s1 (some (.int r.1))).set s2 (some (.int r.2))) H' Q')
    (q : ∀ (l : Addr) (R : List V) (H' : Hp), Same H H' → H l = none → H' l = some (.lst R) → RwL H' R (ms.map f) → Q (.ref l) H') :
    tLc (fun _ H' R => R (Itl K a) H') (gTup K m (gCons (gName s1) (gCons (gName s2) gNil))) tYes te vs σ H Q := fun l hl => by
  subst hm
  refine lc_list (xs := L) (fun i H' => ∃ acc, Same H H' ∧ H' l = some (.lst acc) ∧ RwL H' acc ((ms.take i).map f) ∧ V.ref l ∉ acc) ⟨[], Same.new hl, upd_same, ⟨rfl, fun i v e => by simp at e⟩, by simp⟩ (fun i H' _ h => by obtain ⟨_, s, _⟩ := h; exact sqL_keep hL s) (fun i x H' hx h => ?_) (fun H' h => ?_)
  · obtain ⟨acc, sm, hacc, hA, nl⟩ := h
    obtain ⟨b, r, rfl, hr, hb⟩ := hM.2 i x hx
    refine ⟨b, _, rfl, SqT.of (sm _ _ hb), rfl, _, _, rfl, _, _, rfl, rfl, hw _ _, ?_⟩
    dsimp only [tYes]
    rw [if_pos rfl]
    refine he r H' _ (List.mem_of_getElem? hr) sm (fun q H'' s2 hq hq'' => ?_)
    have npl : l ≠ q := ne_of_none hacc hq
    refine ⟨acc, s2 _ _ hacc, ?_, acc ++ [.ref q], fun c o z => ?_, upd_same, ⟨?_, fun j v ej => ?_⟩, ?_⟩
    · rw [hA.1, List.length_map, List.length_take, sizeLine_eq]
      have := hM.1
      omega
    · rw [upd_ne (ne_of_none z hl)]
      exact s2 _ _ (sm _ _ z)
    · rw [List.length_append, hA.1, List.length_map, List.length_map, List.take_add_one, hr, List.length_append]
      rfl
    · have e : (ms.take (i + 1)).map f = (ms.take i).map f ++ [f r] := by rw [List.take_add_one, hr, List.map_append]; rfl
      rw [e]
      rw [List.getElem?_append] at ej
      by_cases c : j < acc.length
      · rw [if_pos c] at ej
        obtain ⟨d, s, h1, h2, h3⟩ := hA.2 j v ej
        have nd : d ≠ l := fun z => nl (by rw [← z, ← h1]; exact List.mem_of_getElem? ej)
        exact ⟨d, s, h1, by rw [List.getElem?_append_left (by rw [← hA.1]; exact c)]; exact h2, lk_ne nd (s2 _ _ h3)⟩
      · rw [if_neg c] at ej
        cases ek : j - acc.length with
        | succ k => rw [ek] at ej; cases ej
        | zero =>
          rw [ek] at ej
          cases ej
          exact ⟨q, f r, rfl, by rw [List.getElem?_append_right (by rw [← hA.1]; omega), ← hA.1, ek]; rfl, lk_ne (Ne.symm npl) hq''⟩
    · intro h
      rcases List.mem_append.mp h with h | h
      · exact nl h
      · have := List.mem_singleton.mp h
        cases this
        exact npl rfl
  · obtain ⟨acc, sm, hacc, hA, _⟩ := h
    rw [hM.1, List.take_length] at hA
    exact q l acc H' sm hl hacc hA
/-- [f(i) for i in range(n)], numbers; new objects between -/
theorem rd_lcR {n s1 : Nat} {te : TE} {Q : VK} (f : Nat → Int → Prop) (hn : n ≤ 1000)
    (hw : ∀ x : V, L2.wipe ((L2.wipe σ [s1]).set s1 (some x)) [s1] = L2.wipe σ [s1])
    (he : ∀ (i : Nat) (H' : Hp) (Q' : VK), i < n → Same H H' → (∀ (x : Int) (H'' : Hp), f i x → Same H' H'' → Q' (.int x) H'') → te ((L2.wipe σ [s1]).set s1 (some (.int (0 + (i : Int))))) H' Q')
    (q : ∀ (l : Addr) (ys : List Int) (H' : Hp), Same H H' → H l = none → H' l = some (.lst (ys.map V.int)) → ys.length = n → (∀ i x, ys[i]? = some x → f i x) → Q (.ref l) H') :
    tLc (fun _ H' R => R (Itr 0 n) H') (gName s1) tYes te [s1] σ H Q := fun l hl => by
  refine lc_it (walk_range (n := n) (lo := 0)) (fun i H' => ∃ ys : List Int, Same H H' ∧ H' l = some (.lst (ys.map V.int)) ∧ ys.length = i ∧ ∀ j x, ys[j]? = some x → f j x) ⟨[], Same.new hl, upd_same, rfl, fun j x e => by simp at e⟩ (fun i H' _ h => trivial) (fun i v H1 H' hi h y => ?_) (fun H' h => ?_)
  · obtain ⟨ys, sm, hacc, hlen, hys⟩ := h
    obtain ⟨rfl, rfl⟩ := y
    refine ⟨hw _, ?_⟩
    dsimp only [tYes]
    rw [if_pos rfl]
    refine he i _ _ hi sm (fun x H'' fx s2 => ⟨ys.map V.int, s2 _ _ hacc, by rw [List.length_map, sizeLine_eq]; omega, ys ++ [x], fun c o z => ?_, ?_, by rw [List.length_append, hlen]; rfl, fun j z ez => ?_⟩)
    · rw [upd_ne (ne_of_none z hl)]
      exact s2 _ _ (sm _ _ z)
    · rw [upd_same, List.map_append]
      rfl
    · rw [List.getElem?_append] at ez
      by_cases c : j < ys.length
      · rw [if_pos c] at ez
        exact hys j z ez
      · rw [if_neg c] at ez
        cases ek : j - ys.length with
        | succ k => rw [ek] at ez; cases ez
        | zero =>
          rw [ek] at ez
          cases ez
          have : j = i := by omega
          rw [this]
          exact fx
  · obtain ⟨ys, sm, hacc, hlen, hys⟩ := h
    exact q l ys H' sm hl hacc hlen hys
/-- [f(column) for column in zip(*rows)], numbers -/
theorem rd_lcZ {ls : List Addr} {rows : List (List Int)} {n s1 : Nat} {te : TE} {Q : VK} (f : Nat → Int → Prop) (hr0 : rows ≠ []) (hrl : ls.length = rows.length) (hrows : ∀ (k : Nat) (l : Addr) (r : List Int), ls[k]? = some l → rows[k]? = some r → H l = some (.lst (r.map V.int)) ∧ r.length = n) (hn : n ≤ 16777000)
    (hw : ∀ x : V, L2.wipe ((L2.wipe σ [s1]).set s1 (some x)) [s1] = L2.wipe σ [s1])
    (he : ∀ (i : Nat) (T : Addr) (us : List Int) (H' : Hp) (Q' : VK), i < n → Same H H' → H' T = some (.tup (us.map V.int)) → us.length = rows.length → (∀ (k : Nat) (r : List Int), rows[k]? = some r → r[i]? = us[k]?) → (∀ (x : Int), f i x → Q' (.int x) H') → te ((L2.wipe σ [s1]).set s1 (some (.ref T))) H' Q')
    (q : ∀ (l : Addr) (ys : List Int) (H' : Hp), Same H H' → H l = none → H' l = some (.lst (ys.map V.int)) → ys.length = n → (∀ i x, ys[i]? = some x → f i x) → Q (.ref l) H') :
    tLc (fun _ H' R => R (Itzn K ls) H') (gName s1) tYes te [s1] σ H Q := fun l hl => by
  have get : ∀ (k : Nat) (m : Addr), ls[k]? = some m → ∃ r, rows[k]? = some r := fun k m e => by
    have : k < rows.length := by rw [← hrl]; exact (List.getElem?_eq_some_iff.mp e).1
    exact ⟨_, List.getElem?_eq_getElem this⟩
  have w : Walk (Itzn K ls) n (fun H' => Same H H') (fun i H1 v H' => ∃ (T : Addr) (us : List Int), v = .ref T ∧ H1 T = none ∧ H' = upd H1 T (.tup (us.map V.int)) ∧ us.length = rows.length ∧ ∀ (k : Nat) (r : List Int), rows[k]? = some r → r[i]? = us[k]?) := by
    refine ⟨fun i H1 hi sm => ?_, fun H1 sm => ?_, fun i H1 v H' hi sm y => ?_⟩
    · refine ⟨(rows.map fun r => V.int (r.getD i 0)), by rw [List.length_map, hrl], fun k m e => ?_⟩
      obtain ⟨r, hr⟩ := get k m e
      obtain ⟨h1, h2⟩ := hrows k m r e hr
      refine ⟨r.map V.int, V.int (r.getD i 0), SqL.of (sm _ _ h1), ?_, ?_⟩
      · rw [List.getElem?_map, List.getD_eq_getElem?_getD, List.getElem?_eq_getElem (by omega)]
        rfl
      · rw [List.getElem?_map, hr]
        rfl
    · obtain ⟨m0, lr, rfl⟩ : ∃ m lr, ls = m :: lr := by
        cases ls with
        | nil =>
          cases rows with
          | nil => exact absurd rfl hr0
          | cons _ _ => cases hrl
        | cons m lr => exact ⟨m, lr, rfl⟩
      obtain ⟨r, hr⟩ := get 0 m0 rfl
      obtain ⟨h1, h2⟩ := hrows 0 m0 r rfl hr
      exact ⟨m0, r.map V.int, rfl, SqL.of (sm _ _ h1), by rw [List.length_map]; omega⟩
    · obtain ⟨T, us, rfl, hT, rfl, lu, hu⟩ := y
      have eus : us = (rows.map fun r => r.getD i 0).map V.int := by
        refine List.ext_getElem? fun k => ?_
        by_cases c : k < ls.length
        · have e := List.getElem?_eq_getElem c
          obtain ⟨r, hr⟩ := get k _ e
          obtain ⟨h1, h2⟩ := hrows k _ r e hr
          have := hu k _ (r.map V.int) e (SqL.of (sm _ _ h1))
          rw [← this, List.getElem?_map, List.getElem?_map, List.getElem?_map, hr, List.getElem?_eq_getElem (show i < r.length by omega)]
          show _ = some (V.int (r.getD i 0))
          rw [List.getD_eq_getElem?_getD, List.getElem?_eq_getElem (show i < r.length by omega)]
          rfl
        · rw [List.getElem?_eq_none (by omega), List.getElem?_eq_none (by rw [List.length_map, List.length_map]; omega)]
      refine ⟨T, rows.map fun r => r.getD i 0, rfl, hT, by rw [eus], by rw [List.length_map], fun k r hr => ?_⟩
      have c : k < ls.length := by rw [hrl]; exact (List.getElem?_eq_some_iff.mp hr).1
      obtain ⟨h1, h2⟩ := hrows k _ r (List.getElem?_eq_getElem c) hr
      rw [List.getElem?_map, hr]
      show _ = some (r.getD i 0)
      rw [List.getD_eq_getElem?_getD, List.getElem?_eq_getElem (show i < r.length by omega)]
      rfl
  refine lc_it w (fun i H' => ∃ ys : List Int, Same H H' ∧ H' l = some (.lst (ys.map V.int)) ∧ ys.length = i ∧ ∀ j x, ys[j]? = some x → f j x) ⟨[], Same.new hl, upd_same, rfl, fun j x e => by simp at e⟩ (fun i H' _ h => by obtain ⟨_, s, _⟩ := h; exact s) (fun i v H1 H' hi h y => ?_) (fun H' h => ?_)
  · obtain ⟨ys, sm, hacc, hlen, hys⟩ := h
    obtain ⟨T, us, rfl, hT, rfl, lu, hu⟩ := y
    have s2 : Same H1 (upd H1 T (.tup (us.map V.int))) := Same.new hT
    refine ⟨hw _, ?_⟩
    dsimp only [tYes]
    rw [if_pos rfl]
    refine he i T us _ _ hi (sm.trans s2) upd_same lu hu (fun x fx => ⟨ys.map V.int, s2 _ _ hacc, by rw [List.length_map, sizeLine_eq]; omega, ys ++ [x], fun c o z => ?_, ?_, by rw [List.length_append, hlen]; rfl, fun j z ez => ?_⟩)
    · rw [upd_ne (ne_of_none z hl)]
      exact s2 _ _ (sm _ _ z)
    · rw [upd_same, List.map_append]
      rfl
    · rw [List.getElem?_append] at ez
      by_cases c : j < ys.length
      · rw [if_pos c] at ez
        exact hys j z ez
      · rw [if_neg c] at ez
        cases ek : j - ys.length with
        | succ k => rw [ek] at ez; cases ez
        | zero =>
          rw [ek] at ez
          cases ez
          have : j = i := by omega
          rw [this]
          exact fx
  · obtain ⟨ys, sm, hacc, hlen, hys⟩ := h
    exact q l ys H' sm hl hacc hlen hys
end
/-! the items that a slice with a step takes -/
theorem pick_pos {xs : List Int} {ρ W : Nat} (hW : 0 < W) (hρ : ρ < W) (hl : ρ < xs.length) : ∃ ns : List Int, pickV (xs.map V.int) (ρ : Int) (W : Int) = ns.map V.int ∧ 0 < ns.length ∧ (∀ m ∈ ns, ∃ n : Nat, xs[n]? = some m ∧ n % W = ρ) ∧ ∀ (n : Nat) (x : Int), xs[n]? = some x → n % W = ρ → x ∈ ns := by
  have eb : sliceBounds (some (ρ : Int)) none (some (W : Int)) (xs.map V.int).length = ((ρ : Int), (xs.length : Int), (W : Int)) := by
    unfold sliceBounds
    rw [List.length_map]
    have h1 : ((some (W : Int)).getD 1) > 0 := by show (W : Int) > 0; omega
    simp only [h1, if_true]
    have h2 : ¬ ((ρ : Int) < 0) := by omega
    simp only [h2, if_false]
    have h3 : max (0 : Int) (min (ρ : Int) (xs.length : Int)) = ρ := by omega
    rw [h3]
    rfl
  have er : sliceRange (ρ : Int) (xs.length : Int) (W : Int) = (List.range ((xs.length - ρ + W - 1) / W)).map fun k => ρ + W * k := by
    unfold sliceRange
    have h1 : (W : Int) > 0 := by omega
    have h2 : (ρ : Int) < (xs.length : Int) := by omega
    simp only [h1, h2, if_true]
    have h3 : (((xs.length : Int) - ρ + W - 1) / (W : Int)).toNat = (xs.length - ρ + W - 1) / W := by
      have : ((xs.length : Int) - ρ + W - 1) = ((xs.length - ρ + W - 1 : Nat) : Int) := by omega
      rw [this, ← Int.natCast_ediv, Int.toNat_natCast]
    rw [h3]
    refine List.map_congr_left fun k _ => ?_
    have : (ρ : Int) + (W : Int) * (k : Int) = ((ρ + W * k : Nat) : Int) := by rw [Int.natCast_add, Int.natCast_mul]
    rw [this, Int.toNat_natCast]
  have mem : ∀ x, x ∈ ((List.range ((xs.length - ρ + W - 1) / W)).map fun k => ρ + W * k).filterMap (fun i => xs[i]?) ↔ ∃ n : Nat, xs[n]? = some x ∧ n % W = ρ := fun x => by
    rw [List.mem_filterMap]
    constructor
    · rintro ⟨i, hi, e⟩
      obtain ⟨k, _, rfl⟩ := List.mem_map.mp hi
      exact ⟨_, e, by rw [Nat.add_mul_mod_self_left, Nat.mod_eq_of_lt hρ]⟩
    · rintro ⟨n, e, em⟩
      refine ⟨n, List.mem_map.mpr ⟨n / W, List.mem_range.mpr ?_, ?_⟩, e⟩
      · have nl := (List.getElem?_eq_some_iff.mp e).1
        rw [Nat.lt_iff_add_one_le, Nat.le_div_iff_mul_le hW, Nat.succ_mul]
        have := Nat.div_add_mod n W
        rw [em, Nat.mul_comm] at this
        omega
      · have := Nat.div_add_mod n W
        rw [em] at this
        omega
  refine ⟨((List.range ((xs.length - ρ + W - 1) / W)).map fun k => ρ + W * k).filterMap (fun i => xs[i]?), ?_, ?_, fun m hm => (mem m).mp hm, fun n x e em => (mem x).mpr ⟨n, e, em⟩⟩
  · unfold pickV
    rw [eb]
    show (sliceRange (ρ : Int) (xs.length : Int) (W : Int)).filterMap _ = _
    rw [er, List.map_filterMap]
    congr 1
    funext i
    rw [List.getElem?_map]
  · have := (mem _).mpr ⟨ρ, List.getElem?_eq_getElem hl, Nat.mod_eq_of_lt hρ⟩
    exact List.length_pos_of_mem this
theorem fm_some {α β : Type} {f : α → Option β} {g : α → β} : ∀ {l : List α}, (∀ k ∈ l, f k = some (g k)) → l.filterMap f = l.map g
  | [], _ => rfl
  | x :: l, h => by
    rw [List.filterMap_cons_some (h x List.mem_cons_self), fm_some (fun k hk => h k (List.mem_cons_of_mem _ hk)), List.map_cons]
theorem pick_back {xs : List Int} {r : Nat} (hl : r < xs.length) : pickV (xs.map V.int) (r : Int) (-1) = ((xs.take (r + 1)).reverse).map V.int := by
  have eb : sliceBounds (some (r : Int)) none (some (-1)) (xs.map V.int).length = ((r : Int), -1, -1) := by
    unfold sliceBounds
    rw [List.length_map]
    have h1 : ¬ ((some (-1 : Int)).getD 1) > 0 := by show ¬ (-1 : Int) > 0; omega
    simp only [h1, if_false]
    have h2 : ¬ ((r : Int) < 0) := by omega
    simp only [h2, if_false]
    have h3 : max (-1 : Int) (min (r : Int) ((xs.length : Int) - 1)) = r := by omega
    rw [h3]
    rfl
  have er : sliceRange (r : Int) (-1) (-1) = (List.range (r + 1)).map fun k => r - k := by
    unfold sliceRange
    have h1 : ¬ (-1 : Int) > 0 := by omega
    have h2 : (r : Int) > -1 := by omega
    simp only [h1, h2, if_true, if_false]
    have h3 : (((r : Int) - -1 - -1 - 1) / (- -1 : Int)).toNat = r + 1 := by
      have : ((r : Int) - -1 - -1 - 1) = ((r + 1 : Nat) : Int) := by omega
      rw [this]
      have e1 : (- -1 : Int) = 1 := by decide
      rw [e1, Int.ediv_one, Int.toNat_natCast]
    rw [h3]
    refine List.map_congr_left fun k hk => ?_
    have := List.mem_range.mp hk
    omega
  unfold pickV
  rw [eb]
  show (sliceRange (r : Int) (-1) (-1)).filterMap _ = _
  rw [er]
  refine List.ext_getElem? fun i => ?_
  have all : ((List.range (r + 1)).map fun k => r - k).filterMap (fun i => (xs.map V.int)[i]?) = (List.range (r + 1)).map fun k => V.int (xs.getD (r - k) 0) := by
    rw [List.filterMap_map]
    refine fm_some fun k hk => ?_
    have := List.mem_range.mp hk
    show (xs.map V.int)[r - k]? = _
    rw [List.getElem?_map, List.getElem?_eq_getElem (show r - k < xs.length by omega), List.getD_eq_getElem?_getD, List.getElem?_eq_getElem (show r - k < xs.length by omega)]
    rfl
  rw [all, List.getElem?_map, List.getElem?_map]
  by_cases c : i < r + 1
  · rw [List.getElem?_range c, List.getElem?_reverse (by rw [List.length_take]; omega), List.length_take, List.getElem?_take]
    have e : min (r + 1) xs.length - 1 - i = r - i := by omega
    rw [e, if_pos (by omega), List.getElem?_eq_getElem (show r - i < xs.length by omega)]
    show some (V.int (xs.getD (r - i) 0)) = _
    rw [List.getD_eq_getElem?_getD, List.getElem?_eq_getElem (show r - i < xs.length by omega)]
    rfl
  · rw [List.getElem?_eq_none (by rw [List.length_range]; omega), List.getElem?_eq_none (by rw [List.length_reverse, List.length_take]; omega)]
    rfl
theorem rd_sl3 {K : PySem.W.Frag} {te : TE} {tl ts : TO} {σ : L2.St} {H : Hp} {Q : VK} (h : te σ H fun x H1 => tl σ H1 fun l H2 => ts σ H2 fun t H3 => ∃ (a : Addr) (xs : List V) (i j : Int), x = .ref a ∧ l = some i ∧ t = some j ∧ SqL K H3 a xs ∧ j ≠ 0 ∧ ∀ p, H3 p = none → Q (.ref p) (upd H3 p (.lst (pickV xs i j)))) : tSl3 K te tl ts σ H Q := h
theorem rd_minL {K : PySem.W.Frag} {a : Addr} {ns : List Int} {H : Hp} {Q : VK} (h : SqL K H a (ns.map V.int)) (hn : 0 < ns.length) (q : ∀ m, m ∈ ns → (∀ y, y ∈ ns → m ≤ y) → Q (.int m) H) : rMin K [.ref a] H Q := ⟨a, ns, rfl, h, hn, q⟩
theorem rd_minT {K : PySem.W.Frag} {a : Addr} {ns : List Int} {H : Hp} {Q : VK} (h : SqT K H a (ns.map V.int)) (hn : 0 < ns.length) (q : ∀ m, m ∈ ns → (∀ y, y ∈ ns → m ≤ y) → Q (.int m) H) : rMinT K [.ref a] H Q := ⟨a, ns, rfl, h, hn, q⟩
theorem rd_lcZ0 {K : PySem.W.Frag} {tz : TE} {g : TG} {tt : TT} {te : TE} {vs : List Nat} {σ : L2.St} {H : Hp} {Q : VK} (h : tz σ H fun y H1 => ∃ (a : Addr) (ls : List Addr), y = .ref a ∧ (SqT K H1 a (ls.map V.ref) ∨ SqL K H1 a (ls.map V.ref)) ∧ ls ≠ [] ∧ ls.length ≤ sizeLine ∧ (∀ l ∈ ls, ∃ xs, SqL K H1 l xs) ∧ tLc (fun _ H' R => R (Itzn K ls) H') g tt te vs σ H1 Q) : tLc (iZipn K tz) g tt te vs σ H Q := h
theorem RwL.refs {H : Hp} {R : List V} {rs : List (List Int)} (h : RwL H R rs) : ∃ ls : List Addr, R = ls.map V.ref ∧ ls.length = rs.length ∧ ∀ (k : Nat) (l : Addr) (r : List Int), ls[k]? = some l → rs[k]? = some r → H l = some (.lst (r.map V.int)) := by
  have key : ∀ (R : List V) (rs : List (List Int)), RwL H R rs → ∃ ls : List Addr, R = ls.map V.ref ∧ ls.length = rs.length ∧ ∀ (k : Nat) (l : Addr) (r : List Int), ls[k]? = some l → rs[k]? = some r → H l = some (.lst (r.map V.int)) := by
    intro R
    induction R with
    | nil =>
      intro rs h
      exact ⟨[], rfl, h.1, fun k l r e => by simp at e⟩
    | cons v R ih =>
      intro rs h
      obtain ⟨a, r, rfl, e, hr⟩ := h.2 0 v rfl
      cases rs with
      | nil => cases e
      | cons r0 rs =>
        cases e
        have h2 : RwL H R rs := by
          refine ⟨by have := h.1; simp at this; exact this, fun i w ew => ?_⟩
          obtain ⟨b, s, h1, h2, h3⟩ := h.2 (i + 1) w ew
          exact ⟨b, s, h1, h2, h3⟩
        obtain ⟨ls, e1, e2, e3⟩ := ih rs h2
        refine ⟨a :: ls, by rw [e1]; rfl, by rw [List.length_cons, List.length_cons, e2], fun k l q h1 h2 => ?_⟩
        cases k with
        | zero =>
          cases h1
          cases h2
          exact hr
        | succ k => exact e3 k l q h1 h2
  exact key R rs h
theorem cutV_mid {xs : List V} {i k : Nat} (h : i + k ≤ xs.length) : cutV xs (some (i : Int)) (some ((i : Int) + (k : Int))) = (xs.drop i).take k := by
  have e : (i : Int) + (k : Int) = ((i + k : Nat) : Int) := by omega
  unfold cutV
  rw [e, HT.sIx_nat, HT.sIx_nat, Nat.min_eq_left h, Nat.min_eq_left (show i ≤ xs.length by omega)]
  congr 1
  omega
theorem row_at {xs : List Int} {i0 k i : Nat} {v : Int} (h : i < k) : (((xs.drop i0).take k).map (· + v))[i]? = xs[i0 + i]?.map (· + v) := by
  rw [List.getElem?_map, List.getElem?_take, if_pos h, List.getElem?_drop]
theorem rd_extL {l b : Addr} {xs zs : List V} {H : Hp} {Q : VK} (h : H l = some (.lst xs)) (hb : H b = some (.lst zs)) (hz : xs.length + zs.length ≤ 16777216) (q : Q .non (upd H l (.lst (xs ++ zs)))) : rExtend (.ref l) [.ref b] H Q := ⟨l, b, xs, zs, rfl, rfl, h, hb, by rw [sizeLine_eq]; exact hz, q⟩
end Ev

/-! A table of costs that stands: each entry is a way's worth, and no step leads to less: the least worths. -/
namespace Ev
open PySem PySem.Spec PyProof.Rows L2
/-- along steps, put into an order that stays within lo .. hi, an entry is at most another one and what the steps are worth -/
theorem relaxed {us ds : List (Int × Int)} {r lo hi : Int} (nu : ∀ s ∈ us, 1 ≤ s.1 ∧ s.1 ≤ r) (nd : ∀ s ∈ ds, 1 ≤ s.1 ∧ s.1 ≤ r) {f : Int → Int} (h1 : lo ≤ -r) (h2 : r ≤ hi)
    (su : ∀ s ∈ us, ∀ w, lo ≤ w → w + s.1 ≤ hi → f (w + s.1) ≤ f w + s.2) (sd : ∀ s ∈ ds, ∀ w, lo ≤ w - s.1 → w ≤ hi → f (w - s.1) ≤ f w + s.2) :
    ∀ (k : Nat) (U D : List (Int × Int)), U.length + D.length = k → (∀ s ∈ U, s ∈ us) → (∀ s ∈ D, s ∈ ds) → ∀ p n : Int, lo ≤ p → p ≤ hi → lo ≤ n → n ≤ hi → p + tw U - tw D = n → f n ≤ f p + (tv U + tv D) := by
  have pos : ∀ {us : List (Int × Int)}, (∀ s ∈ us, 1 ≤ s.1 ∧ s.1 ≤ r) → ∀ U : List (Int × Int), (∀ s ∈ U, s ∈ us) → 0 ≤ tw U := by
    intro us nu U
    induction U with
    | nil => intro _; exact Int.le_refl _
    | cons s U ih =>
      intro h
      have := ih (fun t ht => h t (List.mem_cons_of_mem _ ht))
      have := nu s (h s List.mem_cons_self)
      rw [tw_cons]
      omega
  intro k
  induction k with
  | zero =>
    intro U D hk _ _ p n _ _ _ _ e
    have e1 : U = [] := List.length_eq_zero_iff.mp (by omega)
    have e2 : D = [] := List.length_eq_zero_iff.mp (by omega)
    subst e1
    subst e2
    rw [tw_nil] at e
    rw [tv_nil]
    have : n = p := by omega
    rw [this]
    omega
  | succ k ih =>
    intro U D hk hU hD p n p1 p2 n1 n2 e
    have fwd : ∀ s U', U = s :: U' → p + s.1 ≤ hi → f n ≤ f p + (tv U + tv D) := fun s U' eU le => by
      subst eU
      have ns := nu s (hU s List.mem_cons_self)
      have a := su s (hU s List.mem_cons_self) p p1 le
      have b := ih U' D (by rw [List.length_cons] at hk; omega) (fun t ht => hU t (List.mem_cons_of_mem _ ht)) hD (p + s.1) n (by omega) le n1 n2 (by rw [tw_cons] at e; omega)
      rw [tv_cons]
      omega
    have bwd : ∀ s D', D = s :: D' → lo ≤ p - s.1 → f n ≤ f p + (tv U + tv D) := fun s D' eD le => by
      subst eD
      have ns := nd s (hD s List.mem_cons_self)
      have a := sd s (hD s List.mem_cons_self) p le p2
      have b := ih U D' (by rw [List.length_cons] at hk; omega) hU (fun t ht => hD t (List.mem_cons_of_mem _ ht)) (p - s.1) n le (by omega) n1 n2 (by rw [tw_cons] at e; omega)
      rw [tv_cons]
      omega
    by_cases c : p ≤ 0
    · cases U with
      | cons s U' =>
        have ns := nu s (hU s List.mem_cons_self)
        exact fwd s U' rfl (by omega)
      | nil =>
        cases D with
        | nil => simp at hk
        | cons s D' =>
          have g := pos nd D' (fun t ht => hD t (List.mem_cons_of_mem _ ht))
          rw [tw_nil, tw_cons] at e
          exact bwd s D' rfl (by omega)
    · cases D with
      | cons s D' =>
        have ns := nd s (hD s List.mem_cons_self)
        exact bwd s D' rfl (by omega)
      | nil =>
        cases U with
        | nil => simp at hk
        | cons s U' =>
          have g := pos nu U' (fun t ht => hU t (List.mem_cons_of_mem _ ht))
          rw [tw_nil, tw_cons] at e
          exact fwd s U' rfl (by omega)
/-- a standing table of ways' worths tells the least ones -/
theorem stands_least {us ds : List (Int × Int)} {b far : Nat} {r : Int} (nu : ∀ s ∈ us, 1 ≤ s.1 ∧ s.1 ≤ r) (nd : ∀ s ∈ ds, 1 ≤ s.1 ∧ s.1 ≤ r) (rb : r ≤ b) (fb : far ≤ b) {f : Int → Int}
    (su : ∀ s ∈ us, ∀ w : Int, -b ≤ w → w + s.1 ≤ b → f (w + s.1) ≤ f w + s.2) (sd : ∀ s ∈ ds, ∀ w : Int, -b ≤ w - s.1 → w ≤ b → f (w - s.1) ≤ f w + s.2) (f0 : f 0 ≤ 0) (wg : ∀ w : Int, -b ≤ w → w ≤ b → Wg us ds w (f w)) {n : Int} (n1 : -far ≤ n) (n2 : n ≤ far) : Least us ds n (f n) := by
  refine ⟨wg n (by omega) (by omega), fun y ⟨U, D, h1, h2, h3, h4⟩ => ?_⟩
  have := relaxed nu nd (lo := -b) (hi := b) (by omega) rb su sd _ U D rfl h1 h2 0 n (by omega) (by omega) (by omega) (by omega) (by omega)
  omega
/-! the steps as a list of moves -/
def movesOf (B : List R3) : List (Int × Int) := B.flatMap fun r => [(r.1, r.2.2), (0 - r.1, 0 - r.2.1)]
theorem movesOf_snoc {B : List R3} {r : R3} : movesOf (B ++ [r]) = movesOf B ++ [(r.1, r.2.2), (0 - r.1, 0 - r.2.1)] := by
  unfold movesOf
  rw [List.flatMap_append]
  rfl
theorem mem_moves {B : List R3} {m : Int × Int} : m ∈ movesOf B ↔ ∃ r ∈ B, m = (r.1, r.2.2) ∨ m = (0 - r.1, 0 - r.2.1) := by
  unfold movesOf
  rw [List.mem_flatMap]
  constructor
  · rintro ⟨r, hr, h⟩
    simp only [List.mem_cons, List.not_mem_nil, or_false] at h
    exact ⟨r, hr, h⟩
  · rintro ⟨r, hr, h⟩
    refine ⟨r, hr, ?_⟩
    simp only [List.mem_cons, List.not_mem_nil, or_false]
    exact h
theorem movesOf_len {B : List R3} : (movesOf B).length = 2 * B.length := by
  induction B with
  | nil => rfl
  | cons r B ih =>
    have e : movesOf (r :: B) = [(r.1, r.2.2), (0 - r.1, 0 - r.2.1)] ++ movesOf B := by unfold movesOf; rw [List.flatMap_cons]
    rw [e, List.length_append, ih]
    simp only [List.length_cons, List.length_nil]
    omega
/-! how much the table is beyond what bounds it from below -/
theorem sum_le {g h : Nat → Nat} : ∀ n : Nat, (∀ i, i < n → g i ≤ h i) → ((List.range n).map g).sum ≤ ((List.range n).map h).sum := by
  intro n
  induction n with
  | zero => intro _; exact Nat.le_refl _
  | succ n ih =>
    intro a
    have b := ih fun i hi => a i (by omega)
    have c := a n (by omega)
    rw [List.range_succ, List.map_append, List.map_append, List.sum_append, List.sum_append]
    simp only [List.map_cons, List.map_nil, List.sum_cons, List.sum_nil]
    omega
theorem sum_lt {g h : Nat → Nat} : ∀ n : Nat, (∀ i, i < n → g i ≤ h i) → ∀ k, k < n → g k < h k → ((List.range n).map g).sum < ((List.range n).map h).sum := by
  intro n
  induction n with
  | zero => intro _ k hk; exact absurd hk (Nat.not_lt_zero _)
  | succ n ih =>
    intro a k hk l
    have c := a n (by omega)
    rw [List.range_succ, List.map_append, List.map_append, List.sum_append, List.sum_append]
    simp only [List.map_cons, List.map_nil, List.sum_cons, List.sum_nil]
    rcases Nat.lt_or_ge k n with z | z
    · have b := ih (fun i hi => a i (by omega)) k z l
      omega
    · obtain rfl : k = n := by omega
      have b := sum_le k fun i hi => a i (by omega)
      omega
def slack (M W : Int) (b : Nat) (f : Int → Int) : Nat := ((List.range (2 * b + 1)).map fun (i : Nat) => (f ((i : Int) - b) * W - M * ((i : Int) - b)).toNat).sum
def putF1 (f : Int → Int) (w x : Int) : Int → Int := fun v => if v = w then x else f v
theorem slack_put {M W : Int} {b : Nat} {f : Int → Int} {w x : Int} (hW : 0 < W) (w1 : -b ≤ w) (w2 : w ≤ b) (hx : x < f w) (lx : M * w ≤ x * W) : slack M W b (putF1 f w x) < slack M W b f := by
  unfold slack
  refine sum_lt _ (fun i hi => ?_) (w + b).toNat (by omega) ?_
  · unfold putF1
    by_cases c : (i : Int) - b = w
    · rw [if_pos c, c]
      have := Int.mul_le_mul_of_nonneg_right (show x ≤ f w by omega) (show 0 ≤ W by omega)
      omega
    · rw [if_neg c]
      exact Nat.le_refl _
  · have e : ((w + b).toNat : Int) - b = w := by omega
    unfold putF1
    rw [e, if_pos rfl]
    have := Int.mul_lt_mul_of_pos_right hx hW
    omega
end Ev

/-! The text of a list of whole numbers tells the list. -/
namespace Ev
open PySem PySem.Spec PyProof.Rows L2 TL
def intsL : List Int → List Nat
  | [] => [91, 93]
  | x :: xs => 91 :: (intL x ++ ((xs.flatMap fun s => 44 :: 32 :: intL s) ++ [93]))
theorem shownInts (xs : List Int) : PyData.shownAll (xs.map PyData.int) = xs.map fun i => (PyData.int i).shown := by
  induction xs with
  | nil => simp only [List.map_nil, PyData.shownAll]
  | cons r rs ih => simp only [List.map_cons, PyData.shownAll, ih]
theorem intsL_eq (xs : List Int) : tl (PyData.list (xs.map PyData.int)).shown = intsL xs := by
  have e : (PyData.list (xs.map PyData.int)).shown = listText (xs.map fun i => (PyData.int i).shown) := by
    have : (PyData.list (xs.map PyData.int)).shown = listText (PyData.shownAll (xs.map PyData.int)) := by simp only [PyData.shown]
    rw [this, shownInts]
  rw [e]
  cases xs with
  | nil => exact (by decide +kernel : tl (listText []) = [91, 93])
  | cons r rs =>
    have e1 : tl ("[" : Str) = [91] := by decide +kernel
    have e2 : tl ("]" : Str) = [93] := by decide +kernel
    have e0 : tl ("" : Str) = [] := by decide +kernel
    show tl (textFrom 1 (("[" : Str) ++ (if 0 > 0 then ", " else "" : String) ++ (PyData.int r).shown) (rs.map fun i => (PyData.int i).shown) ++ ("]" : Str)) = _
    rw [tl_append, tl_from _ _ _ (by decide), tl_append, tl_append, e1, e2, if_neg (by decide), e0]
    unfold intsL intL
    simp [List.flatMap_map]
theorem ints_tail : ∀ xs : List Int, ∃ c r, (xs.flatMap fun s => 44 :: 32 :: intL s) ++ [93] = c :: r ∧ (c < 48 ∨ 57 < c)
  | [] => ⟨93, [], rfl, .inr (by decide)⟩
  | x :: xs => ⟨44, _, by rw [List.flatMap_cons]; rfl, .inl (by decide)⟩
theorem ints_rest : ∀ xs ys : List Int, (xs.flatMap fun s => 44 :: 32 :: intL s) ++ [93] = (ys.flatMap fun s => 44 :: 32 :: intL s) ++ [93] → xs = ys
  | [], [], _ => rfl
  | [], y :: ys, h => by
    rw [List.flatMap_cons] at h
    injection h with h1 _
    exact absurd h1 (by decide)
  | x :: xs, [], h => by
    rw [List.flatMap_cons] at h
    injection h with h1 _
    exact absurd h1 (by decide)
  | x :: xs, y :: ys, h => by
    rw [List.flatMap_cons, List.flatMap_cons] at h
    simp only [List.cons_append, List.append_assoc] at h
    injection h with _ h1
    injection h1 with _ h2
    obtain ⟨c, r, e, hc⟩ := ints_tail xs
    obtain ⟨d, s, e', hd⟩ := ints_tail ys
    rw [e, e'] at h2
    obtain ⟨e1, e2, e3⟩ := int_code hc hd h2
    rw [e1, ints_rest xs ys (by rw [e, e', e2, e3])]
theorem lin_inj {xs ys : List Int} (h : (PyData.list (xs.map PyData.int)).shown = (PyData.list (ys.map PyData.int)).shown) : xs = ys := by
  have h' := congrArg tl h
  rw [intsL_eq, intsL_eq] at h'
  cases xs with
  | nil =>
    cases ys with
    | nil => rfl
    | cons y ys =>
      unfold intsL at h'
      injection h' with _ h1
      obtain ⟨c, r, e, hc⟩ := ints_tail ys
      rw [e] at h1
      rcases Int.lt_or_le y 0 with z | z
      · obtain ⟨m, rfl⟩ : ∃ m : Nat, y = Int.negSucc m := ⟨(-y - 1).toNat, by omega⟩
        rw [intL_neg] at h1
        injection h1 with h2 _
        exact absurd h2 (by decide)
      · obtain ⟨m, rfl⟩ : ∃ m : Nat, y = m := ⟨y.toNat, by omega⟩
        obtain ⟨d, l, e3, d1, d2⟩ := num_head m
        rw [intL_nat, e3] at h1
        injection h1 with h2 _
        omega
  | cons x xs =>
    cases ys with
    | nil =>
      unfold intsL at h'
      injection h' with _ h1
      obtain ⟨c, r, e, hc⟩ := ints_tail xs
      rw [e] at h1
      rcases Int.lt_or_le x 0 with z | z
      · obtain ⟨m, rfl⟩ : ∃ m : Nat, x = Int.negSucc m := ⟨(-x - 1).toNat, by omega⟩
        rw [intL_neg] at h1
        injection h1 with h2 _
        exact absurd h2 (by decide)
      · obtain ⟨m, rfl⟩ : ∃ m : Nat, x = m := ⟨x.toNat, by omega⟩
        obtain ⟨d, l, e3, d1, d2⟩ := num_head m
        rw [intL_nat, e3] at h1
        injection h1 with h2 _
        omega
    | cons y ys =>
      unfold intsL at h'
      injection h' with _ h1
      obtain ⟨c, r, e, hc⟩ := ints_tail xs
      obtain ⟨d, s, e', hd⟩ := ints_tail ys
      rw [e, e'] at h1
      obtain ⟨e1, e2, e3⟩ := int_code hc hd h1
      rw [e1, ints_rest xs ys (by rw [e, e', e2, e3])]
end Ev

/-! Ways between places, by days and by ties; the least worth of them. -/
namespace Ev
/-- ways from a place to another one: days, the ties K (first place, last place, height), one behind another -/
inductive Way (us ds : List (Int × Int)) (K : List (Int × Int × Int)) : Int → Int → Int → Prop
  | step {n c : Int} (x : Int) : Wg us ds n c → Way us ds K x (x + n) c
  | up {k : Int × Int × Int} : k ∈ K → Way us ds K k.1 k.2.1 k.2.2
  | down {k : Int × Int × Int} : k ∈ K → Way us ds K k.2.1 k.1 (-k.2.2)
  | comp {x y z a b : Int} : Way us ds K x y a → Way us ds K y z b → Way us ds K x z (a + b)
/-- the least worth of all ways -/
def LW (us ds : List (Int × Int)) (K : List (Int × Int × Int)) (x y c : Int) : Prop := Way us ds K x y c ∧ ∀ z, Way us ds K x y z → c ≤ z
/-- no way leads back to where it began lower than that -/
def Cons (us ds : List (Int × Int)) (K : List (Int × Int × Int)) : Prop := ∀ x c, Way us ds K x x c → 0 ≤ c
section
variable {us ds : List (Int × Int)} {K K' : List (Int × Int × Int)} {x y z a b c n : Int} {k : Int × Int × Int}
theorem Way.of (h : Wg us ds (y - x) c) : Way us ds K x y c := by
  have := Way.step (K := K) x h
  rw [show x + (y - x) = y by omega] at this
  exact this
theorem Way.refl (us ds : List (Int × Int)) (K : List (Int × Int × Int)) (x : Int) : Way us ds K x x 0 := .of (by rw [Int.sub_self]; exact Wg.zero)
theorem Way.mono (h : Way us ds K x y c) (s : ∀ k ∈ K, k ∈ K') : Way us ds K' x y c := by
  induction h with
  | step x w => exact .step x w
  | up m => exact .up (s _ m)
  | down m => exact .down (s _ m)
  | comp _ _ p q => exact .comp p q
theorem LW.uniq (h : LW us ds K x y a) (g : LW us ds K x y b) : a = b := by
  have := h.2 _ g.1
  have := g.2 _ h.1
  omega
theorem LW.same (s : ∀ k, k ∈ K ↔ k ∈ K') (h : LW us ds K x y c) : LW us ds K' x y c := ⟨h.1.mono fun k m => (s k).mp m, fun z w => h.2 z (w.mono fun k m => (s k).mpr m)⟩
theorem Way.nil_iff : Way us ds [] x y c ↔ Wg us ds (y - x) c := by
  refine ⟨fun h => ?_, .of⟩
  induction h with
  | @step n c x w => rw [show x + n - x = n by omega]; exact w
  | up m => cases m
  | down m => cases m
  | @comp x y z a b _ _ p q =>
    have := p.add q
    rw [show y - x + (z - y) = z - x by omega] at this
    exact this
theorem LW.nil (h : Least us ds (y - x) c) : LW us ds [] x y c := ⟨.of h.1, fun z w => h.2 z (Way.nil_iff.mp w)⟩
theorem LW.least (h : LW us ds [] x y c) : Least us ds (y - x) c := ⟨Way.nil_iff.mp h.1, fun z w => h.2 z (.of w)⟩
theorem Cons.less (h : Cons us ds K') (s : ∀ k ∈ K, k ∈ K') : Cons us ds K := fun x c w => h x c (w.mono s)
/-- rows that have the ties, told by the heights of their places -/
structure RowT (us ds : List (Int × Int)) (K : List (Int × Int × Int)) (E : Int → Int) : Prop where
  r : ∀ (n c x : Int), Wg us ds n c → E (x + n) - E x ≤ c
  k : ∀ k ∈ K, E k.2.1 - E k.1 = k.2.2
theorem RowT.way {E : Int → Int} (h : RowT us ds K E) (w : Way us ds K x y c) : E y - E x ≤ c := by
  induction w with
  | step x w => exact h.r _ _ _ w
  | up m => have := h.k _ m; omega
  | down m => have := h.k _ m; omega
  | comp _ _ p q => omega
theorem RowT.cons {E : Int → Int} (h : RowT us ds K E) : Cons us ds K := fun x c w => by
  have := h.way w
  omega
theorem RowT.less {E : Int → Int} (h : RowT us ds K' E) (s : ∀ k ∈ K, k ∈ K') : RowT us ds K E := ⟨h.r, fun k m => h.k k (s k m)⟩
/-- the row whose places lie as high above x as they can -/
theorem LW.row (h : ∀ y, ∃ c, LW us ds K x y c) : ∃ E : Int → Int, RowT us ds K E ∧ ∀ y, LW us ds K x y (E y) := by
  refine ⟨fun y => Classical.choose (h y), ⟨fun n c y w => ?_, fun k m => ?_⟩, fun y => Classical.choose_spec (h y)⟩
  · have := (Classical.choose_spec (h (y + n))).2 _ ((Classical.choose_spec (h y)).1.comp (.step y w))
    omega
  · have a := (Classical.choose_spec (h k.2.1)).2 _ ((Classical.choose_spec (h k.1)).1.comp (.up m))
    have b := (Classical.choose_spec (h k.1)).2 _ ((Classical.choose_spec (h k.2.1)).1.comp (.down m))
    omega
theorem LW.zero (hc : Cons us ds K) : LW us ds K x x 0 := ⟨.refl us ds K x, fun z w => hc x z w⟩
/-! one tie more -/
theorem Way.add1 {f l t : Int} (hc : Cons us ds K) (h1 : ∀ c, Way us ds K f l c → t ≤ c) (h2 : ∀ c, Way us ds K l f c → -t ≤ c) (w : Way us ds (K ++ [(f, l, t)]) x y c) :
    (∃ c', c' ≤ c ∧ Way us ds K x y c') ∨ (∃ a b, Way us ds K x f a ∧ Way us ds K l y b ∧ a + t + b ≤ c) ∨ ∃ a b, Way us ds K x l a ∧ Way us ds K f y b ∧ a - t + b ≤ c := by
  induction w with
  | step x w => exact .inl ⟨_, Int.le_refl _, .step x w⟩
  | @up k m =>
    rcases List.mem_append.mp m with m | m
    · exact .inl ⟨_, Int.le_refl _, .up m⟩
    · rw [List.mem_singleton.mp m]
      exact .inr (.inl ⟨0, 0, .refl us ds K f, .refl us ds K l, by show 0 + t + 0 ≤ t; omega⟩)
  | @down k m =>
    rcases List.mem_append.mp m with m | m
    · exact .inl ⟨_, Int.le_refl _, .down m⟩
    · rw [List.mem_singleton.mp m]
      exact .inr (.inr ⟨0, 0, .refl us ds K l, .refl us ds K f, by show 0 - t + 0 ≤ -t; omega⟩)
  | @comp x y z p q _ _ u v =>
    rcases u with ⟨c1, e1, w1⟩ | ⟨a1, b1, u1, v1, e1⟩ | ⟨a1, b1, u1, v1, e1⟩
    · rcases v with ⟨c2, e2, w2⟩ | ⟨a2, b2, u2, v2, e2⟩ | ⟨a2, b2, u2, v2, e2⟩
      · exact .inl ⟨c1 + c2, by omega, w1.comp w2⟩
      · exact .inr (.inl ⟨c1 + a2, b2, w1.comp u2, v2, by omega⟩)
      · exact .inr (.inr ⟨c1 + a2, b2, w1.comp u2, v2, by omega⟩)
    · rcases v with ⟨c2, e2, w2⟩ | ⟨a2, b2, u2, v2, e2⟩ | ⟨a2, b2, u2, v2, e2⟩
      · exact .inr (.inl ⟨a1, b1 + c2, u1, v1.comp w2, by omega⟩)
      · have := h2 _ (v1.comp u2)
        exact .inr (.inl ⟨a1, b2, u1, v2, by omega⟩)
      · have := hc _ _ (v1.comp u2)
        exact .inl ⟨a1 + b2, by omega, u1.comp v2⟩
    · rcases v with ⟨c2, e2, w2⟩ | ⟨a2, b2, u2, v2, e2⟩ | ⟨a2, b2, u2, v2, e2⟩
      · exact .inr (.inr ⟨a1, b1 + c2, u1, v1.comp w2, by omega⟩)
      · have := hc _ _ (v1.comp u2)
        exact .inl ⟨a1 + b2, by omega, u1.comp v2⟩
      · have := h1 _ (v1.comp u2)
        exact .inr (.inr ⟨a1, b2, u1, v2, by omega⟩)
theorem Cons.add {f l t : Int} (hc : Cons us ds K) (h1 : ∀ c, Way us ds K f l c → t ≤ c) (h2 : ∀ c, Way us ds K l f c → -t ≤ c) : Cons us ds (K ++ [(f, l, t)]) := fun x c w => by
  rcases w.add1 hc h1 h2 with ⟨c', e, w⟩ | ⟨a, b, u, v, e⟩ | ⟨a, b, u, v, e⟩
  · have := hc x c' w; omega
  · have := h2 _ (v.comp u); omega
  · have := h1 _ (v.comp u); omega
theorem Cons.of_add {f l t : Int} (hc : Cons us ds (K ++ [(f, l, t)])) : Cons us ds K ∧ (∀ c, Way us ds K f l c → t ≤ c) ∧ ∀ c, Way us ds K l f c → -t ≤ c := by
  have s : ∀ k ∈ K, k ∈ K ++ [(f, l, t)] := fun k m => List.mem_append_left _ m
  have m : (f, l, t) ∈ K ++ [(f, l, t)] := List.mem_append_right _ List.mem_cons_self
  refine ⟨hc.less s, fun c w => ?_, fun c w => ?_⟩
  · have := hc _ _ ((w.mono s).comp (.down m))
    have e : -(f, l, t).2.2 = -t := rfl
    omega
  · have := hc _ _ ((w.mono s).comp (.up m))
    have e : (f, l, t).2.2 = t := rfl
    omega
/-- a tie that is told already changes nothing -/
theorem Way.told {f l t : Int} (hc : Cons us ds K) (h1 : LW us ds K f l t) (h2 : LW us ds K l f (-t)) (w : Way us ds (K ++ [(f, l, t)]) x y c) : ∃ c', c' ≤ c ∧ Way us ds K x y c' := by
  rcases w.add1 hc h1.2 h2.2 with h | ⟨a, b, u, v, e⟩ | ⟨a, b, u, v, e⟩
  · exact h
  · exact ⟨a + (t + b), by omega, u.comp (h1.1.comp v)⟩
  · exact ⟨a + (-t + b), by omega, u.comp (h2.1.comp v)⟩
/-- there is a least worth -/
theorem LW.ex (ex : ∀ n : Int, ∃ c, Least us ds n c) : ∀ (n : Nat) (K : List (Int × Int × Int)), K.length = n → Cons us ds K → ∀ x y, ∃ c, LW us ds K x y c := by
  intro n
  induction n with
  | zero =>
    intro K hl _ x y
    obtain rfl : K = [] := List.eq_nil_of_length_eq_zero hl
    obtain ⟨c, h⟩ := ex (y - x)
    exact ⟨c, .nil h⟩
  | succ n ih =>
    intro K hl hc x y
    obtain ⟨K0, ⟨f, l, t⟩, rfl⟩ : ∃ K0 k, K = K0 ++ [k] := ⟨K.dropLast, K.getLast (by intro h; rw [h] at hl; cases hl), (List.dropLast_concat_getLast _).symm⟩
    rw [List.length_append, List.length_singleton] at hl
    obtain ⟨c0, h1, h2⟩ := hc.of_add
    have ih := ih K0 (by omega) c0
    have s : ∀ k ∈ K0, k ∈ K0 ++ [(f, l, t)] := fun k m => List.mem_append_left _ m
    have m : (f, l, t) ∈ K0 ++ [(f, l, t)] := List.mem_append_right _ List.mem_cons_self
    obtain ⟨d, hd⟩ := ih x y
    obtain ⟨a1, ha1⟩ := ih x f
    obtain ⟨b1, hb1⟩ := ih l y
    obtain ⟨a2, ha2⟩ := ih x l
    obtain ⟨b2, hb2⟩ := ih f y
    have w1 : Way us ds (K0 ++ [(f, l, t)]) x y (a1 + (t + b1)) := (ha1.1.mono s).comp ((Way.up m).comp (hb1.1.mono s))
    have w2 : Way us ds (K0 ++ [(f, l, t)]) x y (a2 + (-t + b2)) := (ha2.1.mono s).comp ((Way.down m).comp (hb2.1.mono s))
    have low : ∀ z, Way us ds (K0 ++ [(f, l, t)]) x y z → d ≤ z ∨ a1 + (t + b1) ≤ z ∨ a2 + (-t + b2) ≤ z := fun z w => by
      rcases w.add1 c0 h1 h2 with ⟨c', e, w⟩ | ⟨a, b, u, v, e⟩ | ⟨a, b, u, v, e⟩
      · have := hd.2 _ w; exact .inl (by omega)
      · have := ha1.2 _ u; have := hb1.2 _ v; exact .inr (.inl (by omega))
      · have := ha2.2 _ u; have := hb2.2 _ v; exact .inr (.inr (by omega))
    by_cases q1 : d ≤ a1 + (t + b1) ∧ d ≤ a2 + (-t + b2)
    · exact ⟨d, hd.1.mono s, fun z w => by rcases low z w with h | h | h <;> omega⟩
    · by_cases q2 : a1 + (t + b1) ≤ a2 + (-t + b2)
      · exact ⟨_, w1, fun z w => by rcases low z w with h | h | h <;> omega⟩
      · exact ⟨_, w2, fun z w => by rcases low z w with h | h | h <;> omega⟩
/-! the first and the last tie of a way -/
/-- straight to a tie's first place: there by days, or to its last place and back by it -/
def InD (us ds : List (Int × Int)) (x : Int) (k : Int × Int × Int) (c : Int) : Prop := Wg us ds (k.1 - x) c ∨ Wg us ds (k.2.1 - x) (c + k.2.2)
def OutD (us ds : List (Int × Int)) (k : Int × Int × Int) (y c : Int) : Prop := Wg us ds (y - k.1) c ∨ Wg us ds (y - k.2.1) (c - k.2.2)
theorem InD.way (m : k ∈ K) (h : InD us ds x k c) : Way us ds K x k.1 c := by
  rcases h with h | h
  · exact .of h
  · have := (Way.of (K := K) h).comp (.down m)
    rw [show c + k.2.2 + -k.2.2 = c by omega] at this
    exact this
theorem OutD.way (m : k ∈ K) (h : OutD us ds k y c) : Way us ds K k.1 y c := by
  rcases h with h | h
  · exact .of h
  · have := (Way.up m).comp (Way.of (K := K) h)
    rw [show k.2.2 + (c - k.2.2) = c by omega] at this
    exact this
theorem InD.pre (w : Wg us ds (y - x) a) (h : InD us ds y k c) : InD us ds x k (a + c) := by
  rcases h with h | h
  · have := w.add h
    rw [show y - x + (k.1 - y) = k.1 - x by omega] at this
    exact .inl this
  · have := w.add h
    rw [show y - x + (k.2.1 - y) = k.2.1 - x by omega, show a + (c + k.2.2) = a + c + k.2.2 by omega] at this
    exact .inr this
theorem OutD.post (h : OutD us ds k x c) (w : Wg us ds (y - x) a) : OutD us ds k y (c + a) := by
  rcases h with h | h
  · have := h.add w
    rw [show x - k.1 + (y - x) = y - k.1 by omega] at this
    exact .inl this
  · have := h.add w
    rw [show x - k.2.1 + (y - x) = y - k.2.1 by omega, show c - k.2.2 + a = c + a - k.2.2 by omega] at this
    exact .inr this
theorem Way.dec (w : Way us ds K x y c) : (∃ c', c' ≤ c ∧ Wg us ds (y - x) c') ∨ ∃ k ∈ K, ∃ k' ∈ K, ∃ a r b, InD us ds x k a ∧ Way us ds K k.1 k'.1 r ∧ OutD us ds k' y b ∧ a + r + b ≤ c := by
  induction w with
  | @step n c x w => exact .inl ⟨c, Int.le_refl _, by rw [show x + n - x = n by omega]; exact w⟩
  | @up k m => exact .inr ⟨k, m, k, m, 0, 0, k.2.2, .inl (by rw [Int.sub_self]; exact Wg.zero), .refl us ds K _, .inr (by rw [Int.sub_self, Int.sub_self]; exact Wg.zero), by omega⟩
  | @down k m => exact .inr ⟨k, m, k, m, -k.2.2, 0, 0, .inr (by rw [Int.sub_self, Int.add_left_neg]; exact Wg.zero), .refl us ds K _, .inl (by rw [Int.sub_self]; exact Wg.zero), by omega⟩
  | @comp x y z p q _ _ u v =>
    rcases u with ⟨c1, e1, w1⟩ | ⟨k1, m1, k2, m2, a1, r1, b1, i1, w1, o1, e1⟩
    · rcases v with ⟨c2, e2, w2⟩ | ⟨k3, m3, k4, m4, a2, r2, b2, i2, w2, o2, e2⟩
      · refine .inl ⟨c1 + c2, by omega, ?_⟩
        have := w1.add w2
        rw [show y - x + (z - y) = z - x by omega] at this
        exact this
      · exact .inr ⟨k3, m3, k4, m4, c1 + a2, r2, b2, i2.pre w1, w2, o2, by omega⟩
    · rcases v with ⟨c2, e2, w2⟩ | ⟨k3, m3, k4, m4, a2, r2, b2, i2, w2, o2, e2⟩
      · exact .inr ⟨k1, m1, k2, m2, a1, r1, b1 + c2, i1, w1, o1.post w2, by omega⟩
      · exact .inr ⟨k1, m1, k4, m4, a1, r1 + ((b1 + a2) + r2), b2, i1, w1.comp (((o1.way m2).comp (i2.way m3)).comp w2), o2, by omega⟩
theorem Way.decIn (m : k ∈ K) (w : Way us ds K x k.1 c) : ∃ k1 ∈ K, ∃ a r, InD us ds x k1 a ∧ Way us ds K k1.1 k.1 r ∧ a + r ≤ c := by
  rcases w.dec with ⟨c', e, w⟩ | ⟨k1, m1, k2, m2, a, r, b, i, w, o, e⟩
  · exact ⟨k, m, c', 0, .inl w, .refl us ds K _, by omega⟩
  · exact ⟨k1, m1, a, r + b, i, w.comp (o.way m2), by omega⟩
theorem Way.decOut (m : k ∈ K) (w : Way us ds K k.1 y c) : ∃ k1 ∈ K, ∃ r b, Way us ds K k.1 k1.1 r ∧ OutD us ds k1 y b ∧ r + b ≤ c := by
  rcases w.dec with ⟨c', e, w⟩ | ⟨k1, m1, k2, m2, a, r, b, i, w, o, e⟩
  · exact ⟨k, m, 0, c', .refl us ds K _, .inl w, by omega⟩
  · exact ⟨k2, m2, a + r, b, (i.way m1).comp w, o, by omega⟩
end
end Ev

/-! The least worths of ways between ties, kept as rows of numbers. -/
namespace Ev
/-- the least sum of two numbers at the same place -/
def LeastJ (xs ys : List Int) (m : Int) : Prop := (∃ (i : Nat) (x y : Int), xs[i]? = some x ∧ ys[i]? = some y ∧ m = x + y) ∧ ∀ (i : Nat) (x y : Int), xs[i]? = some x → ys[i]? = some y → m ≤ x + y
/-- the less one of two numbers -/
def MinOf (a b m : Int) : Prop := (m = a ∨ m = b) ∧ m ≤ a ∧ m ≤ b
theorem minOf (a b : Int) : MinOf a b (if b < a then b else a) := by
  unfold MinOf
  split <;> omega
def InL (us ds : List (Int × Int)) (x : Int) (k : Int × Int × Int) (c : Int) : Prop := InD us ds x k c ∧ ∀ z, InD us ds x k z → c ≤ z
def OutL (us ds : List (Int × Int)) (k : Int × Int × Int) (y c : Int) : Prop := OutD us ds k y c ∧ ∀ z, OutD us ds k y z → c ≤ z
section
variable {us ds : List (Int × Int)} {K : List (Int × Int × Int)} {x y c d m : Int} {k : Int × Int × Int} {A B : List Int} {R : List (List Int)}
theorem InL.of {a b : Int} (h : Least us ds (k.1 - x) a) (g : Least us ds (k.2.1 - x) b) (hm : MinOf a (b - k.2.2) m) : InL us ds x k m := by
  obtain ⟨e, l1, l2⟩ := hm
  refine ⟨?_, fun z hz => ?_⟩
  · rcases e with rfl | rfl
    · exact .inl h.1
    · exact .inr (by rw [show b - k.2.2 + k.2.2 = b by omega]; exact g.1)
  · rcases hz with hz | hz
    · have := h.2 _ hz; omega
    · have := g.2 _ hz; omega
theorem OutL.of {a b : Int} (h : Least us ds (y - k.1) a) (g : Least us ds (y - k.2.1) b) (hm : MinOf a (b + k.2.2) m) : OutL us ds k y m := by
  obtain ⟨e, l1, l2⟩ := hm
  refine ⟨?_, fun z hz => ?_⟩
  · rcases e with rfl | rfl
    · exact .inl h.1
    · exact .inr (by rw [show b + k.2.2 - k.2.2 = b by omega]; exact g.1)
  · rcases hz with hz | hz
    · have := h.2 _ hz; omega
    · have := g.2 _ hz; omega
/-- numbers for each tie -/
def Each (K : List (Int × Int × Int)) (P : (Int × Int × Int) → Int → Prop) (A : List Int) : Prop := A.length = K.length ∧ ∀ (i : Nat) (k : Int × Int × Int) (c : Int), K[i]? = some k → A[i]? = some c → P k c
theorem Each.at {P : (Int × Int × Int) → Int → Prop} (h : Each K P A) {i : Nat} (e : K[i]? = some k) : ∃ c, A[i]? = some c ∧ P k c := by
  have il := (List.getElem?_eq_some_iff.mp e).1
  have e2 := List.getElem?_eq_getElem (show i < A.length by rw [h.1]; exact il)
  exact ⟨_, e2, h.2 i k _ e e2⟩
theorem Each.snoc {P : (Int × Int × Int) → Int → Prop} {i : Nat} (h : Each (K.take i) P A) (e : K[i]? = some k) (p : P k c) : Each (K.take (i + 1)) P (A ++ [c]) := by
  have il := (List.getElem?_eq_some_iff.mp e).1
  have tk : K.take (i + 1) = K.take i ++ [k] := by rw [List.take_add_one, e]; rfl
  have hl : A.length = i := by rw [h.1, List.length_take]; omega
  refine ⟨by rw [tk, List.length_append, List.length_append, h.1]; rfl, fun j k' c' e1 e2 => ?_⟩
  rw [tk] at e1
  by_cases q : j < i
  · rw [List.getElem?_append_left (by rw [List.length_take]; omega)] at e1
    rw [List.getElem?_append_left (by omega)] at e2
    exact h.2 j k' c' e1 e2
  · rw [List.getElem?_append_right (by rw [List.length_take]; omega)] at e1
    rw [List.getElem?_append_right (by omega)] at e2
    have j1 := (List.getElem?_eq_some_iff.mp e2).1
    rw [List.length_singleton] at j1
    have z1 : j - A.length = 0 := by omega
    have z2 : j - (K.take i).length = 0 := by rw [List.length_take]; omega
    rw [z2] at e1
    rw [z1] at e2
    cases e1
    cases e2
    exact p
/-- the least worths between the first places of all ties -/
structure MatOk (us ds : List (Int × Int)) (K : List (Int × Int × Int)) (R : List (List Int)) : Prop where
  n : R.length = K.length
  r : ∀ (i : Nat) (k : Int × Int × Int) (row : List Int), K[i]? = some k → R[i]? = some row → Each K (fun k' c => LW us ds K k.1 k'.1 c) row
theorem MatOk.nil : MatOk us ds [] [] := ⟨rfl, fun i k row e => by cases e⟩
theorem MatOk.at (h : MatOk us ds K R) {i : Nat} (e : K[i]? = some k) : ∃ row, R[i]? = some row ∧ Each K (fun k' c => LW us ds K k.1 k'.1 c) row := by
  have il := (List.getElem?_eq_some_iff.mp e).1
  have e2 := List.getElem?_eq_getElem (show i < R.length by rw [h.n]; exact il)
  exact ⟨_, e2, h.r i k _ e e2⟩
/-- from a place to a tie: straight to some tie, on from there -/
theorem lw_col (h : MatOk us ds K R) (hA : Each K (InL us ds x) A) {col : List Int} {i : Nat} (hc : ∀ (j : Nat) (r : List Int), R[j]? = some r → r[i]? = col[j]?) (ek : K[i]? = some k) (hm : LeastJ A col m) : LW us ds K x k.1 m := by
  obtain ⟨⟨j, a, u, ea, eu, rfl⟩, le⟩ := hm
  have km := List.mem_of_getElem? ek
  have jl := (List.getElem?_eq_some_iff.mp ea).1
  have ej := List.getElem?_eq_getElem (show j < K.length by rw [← hA.1]; exact jl)
  constructor
  · obtain ⟨row, er, hr⟩ := h.at ej
    have := hc j row er
    rw [eu] at this
    exact ((hA.2 j _ _ ej ea).1.way (List.mem_of_getElem? ej)).comp (hr.2 i k u ek this).1
  · intro z w
    obtain ⟨k1, m1, a', r', i1, w1, e1⟩ := w.decIn km
    obtain ⟨j1, ej1⟩ := List.getElem?_of_mem m1
    obtain ⟨c1, ec1, p1⟩ := hA.at ej1
    obtain ⟨row, er, hr⟩ := h.at ej1
    obtain ⟨c2, ec2, p2⟩ := hr.at ek
    have q := hc j1 row er
    rw [ec2] at q
    have := le j1 c1 c2 ec1 q.symm
    have := p1.2 _ i1
    have := p2.2 _ w1
    omega
/-- from a tie to a place -/
theorem lw_row (hB : Each K (fun k c => OutL us ds k y c) B) {row : List Int} {i : Nat} (ek : K[i]? = some k) (hr : Each K (fun k' c => LW us ds K k.1 k'.1 c) row) (hm : LeastJ row B m) : LW us ds K k.1 y m := by
  obtain ⟨⟨j, a, u, ea, eu, rfl⟩, le⟩ := hm
  have jl := (List.getElem?_eq_some_iff.mp ea).1
  have ej := List.getElem?_eq_getElem (show j < K.length by rw [← hr.1]; exact jl)
  constructor
  · exact (hr.2 j _ _ ej ea).1.comp ((hB.2 j _ _ ej eu).1.way (List.mem_of_getElem? ej))
  · intro z w
    obtain ⟨k1, m1, r', b', w1, o1, e1⟩ := w.decOut (List.mem_of_getElem? ek)
    obtain ⟨j1, ej1⟩ := List.getElem?_of_mem m1
    obtain ⟨c1, ec1, p1⟩ := hr.at ej1
    obtain ⟨c2, ec2, p2⟩ := hB.at ej1
    have := le j1 c1 c2 ec1 ec2
    have := p1.2 _ w1
    have := p2.2 _ o1
    omega
/-- from a place to another one -/
theorem lw_two (hA : Each K (fun k c => LW us ds K x k.1 c) A) (hB : Each K (fun k c => OutL us ds k y c) B) (hd : Least us ds (y - x) d) (hm : LeastJ A B m) (hg : MinOf d m c) : LW us ds K x y c := by
  obtain ⟨eg, l1, l2⟩ := hg
  obtain ⟨⟨j, a, u, ea, eu, e⟩, le⟩ := hm
  constructor
  · rcases eg with rfl | rfl
    · exact .of hd.1
    · have jl := (List.getElem?_eq_some_iff.mp ea).1
      have ej := List.getElem?_eq_getElem (show j < K.length by rw [← hA.1]; exact jl)
      rw [e]
      exact (hA.2 j _ _ ej ea).1.comp ((hB.2 j _ _ ej eu).1.way (List.mem_of_getElem? ej))
  · intro z w
    rcases w.dec with ⟨c', e1, w⟩ | ⟨k1, m1, k2, m2, a', r', b', i', w', o', e1⟩
    · have := hd.2 _ w; omega
    · obtain ⟨j2, ej2⟩ := List.getElem?_of_mem m2
      obtain ⟨c1, ec1, p1⟩ := hA.at ej2
      obtain ⟨c2, ec2, p2⟩ := hB.at ej2
      have := le j2 c1 c2 ec1 ec2
      have := p1.2 _ ((i'.way m1).comp w')
      have := p2.2 _ o'
      omega
/-- one tie more: the rows with it -/
structure Rows2 (K : List (Int × Int × Int)) (R R2 : List (List Int)) (C Lv : List Int) : Prop where
  n : R2.length = K.length + 1
  r : ∀ (i : Nat) (row : List Int) (c : Int), R[i]? = some row → C[i]? = some c → ∃ row2, R2[i]? = some (row2 ++ [c]) ∧ row2.length = K.length ∧ ∀ (j : Nat) (t l : Int), row[j]? = some t → Lv[j]? = some l → ∃ m, row2[j]? = some m ∧ MinOf t (c + l) m
  l : R2[K.length]? = some (Lv ++ [0])
theorem mat_add {f l t : Int} {R2 : List (List Int)} {Af Al Bf Bl Lv cm C : List Int} (h : MatOk us ds K R) (hc : Cons us ds K) (h1 : ∀ c, Way us ds K f l c → t ≤ c) (h2 : ∀ c, Way us ds K l f c → -t ≤ c)
    (hAf : Each K (fun k c => LW us ds K f k.1 c) Af) (hAl : Each K (fun k c => LW us ds K l k.1 c) Al) (hBf : Each K (fun k c => OutL us ds k f c) Bf) (hBl : Each K (fun k c => OutL us ds k l c) Bl)
    (lv : Lv.length = K.length) (hLv : ∀ (j : Nat) (a b : Int), Af[j]? = some a → Al[j]? = some b → ∃ m, Lv[j]? = some m ∧ MinOf a (b + t) m)
    (lc : cm.length = K.length) (hcm : ∀ (j : Nat) (a b : Int), Bf[j]? = some a → Bl[j]? = some b → ∃ m, cm[j]? = some m ∧ MinOf a (b - t) m)
    (lC : C.length = K.length) (hC : ∀ (i : Nat) (row : List Int) (c : Int), R[i]? = some row → C[i]? = some c → LeastJ row cm c) (h3 : Rows2 K R R2 C Lv) : MatOk us ds (K ++ [(f, l, t)]) R2 := by
  have hc2 := hc.add h1 h2
  have sub : ∀ k ∈ K, k ∈ K ++ [(f, l, t)] := fun k m => List.mem_append_left _ m
  have mem : (f, l, t) ∈ K ++ [(f, l, t)] := List.mem_append_right _ List.mem_cons_self
  -- from the new tie's first place to each tie
  have leave : ∀ (j : Nat) (k : Int × Int × Int) (c : Int), K[j]? = some k → Lv[j]? = some c → LW us ds (K ++ [(f, l, t)]) f k.1 c := fun j k c ek ec => by
    obtain ⟨a, ea, pa⟩ := hAf.at ek
    obtain ⟨b, eb, pb⟩ := hAl.at ek
    obtain ⟨m, em, hm⟩ := hLv j a b ea eb
    rw [ec] at em
    cases em
    obtain ⟨e, l1, l2⟩ := hm
    refine ⟨?_, fun z w => ?_⟩
    · rcases e with rfl | rfl
      · exact pa.1.mono sub
      · have := (Way.up (us := us) (ds := ds) mem).comp (pb.1.mono sub)
        rw [show (f, l, t).2.2 + b = b + t by show t + b = b + t; omega] at this
        exact this
    · rcases w.add1 hc h1 h2 with ⟨c', q, w⟩ | ⟨a', b', u, v, q⟩ | ⟨a', b', u, v, q⟩
      · have := pa.2 _ w; omega
      · have := hc _ _ u; have := pb.2 _ v; omega
      · have := h1 _ u; have := pa.2 _ v; omega
  -- from each tie to the new one's first place
  have come : ∀ (i : Nat) (k : Int × Int × Int) (c : Int), K[i]? = some k → C[i]? = some c → LW us ds (K ++ [(f, l, t)]) k.1 f c := fun i k c ek ec => by
    obtain ⟨row, er, hr⟩ := h.at ek
    obtain ⟨⟨j, a, u, ea, eu, rfl⟩, le⟩ := hC i row c er ec
    have jl := (List.getElem?_eq_some_iff.mp ea).1
    have ej := List.getElem?_eq_getElem (show j < K.length by rw [← hr.1]; exact jl)
    have pr := hr.2 j _ _ ej ea
    obtain ⟨b1, eb1, p1⟩ := hBf.at ej
    obtain ⟨b2, eb2, p2⟩ := hBl.at ej
    obtain ⟨m, em, e, l1, l2⟩ := hcm j b1 b2 eb1 eb2
    rw [eu] at em
    cases em
    refine ⟨?_, fun z w => ?_⟩
    · refine (pr.1.mono sub).comp ?_
      rcases e with rfl | rfl
      · exact (p1.1.way (List.mem_of_getElem? ej)).mono sub
      · have := ((p2.1.way (List.mem_of_getElem? ej)).mono sub).comp (Way.down (us := us) (ds := ds) mem)
        rw [show b2 + -(f, l, t).2.2 = b2 - t by show b2 + -t = b2 - t; omega] at this
        exact this
    · have toF : ∀ z, Way us ds K k.1 f z → a + u ≤ z := fun z w => by
        obtain ⟨k1, m1, r', b', w1, o1, e1⟩ := w.decOut (List.mem_of_getElem? ek)
        obtain ⟨j1, ej1⟩ := List.getElem?_of_mem m1
        obtain ⟨c1, ec1, q1⟩ := hr.at ej1
        obtain ⟨d1, ed1, q2⟩ := hBf.at ej1
        obtain ⟨d2, ed2, q3⟩ := hBl.at ej1
        obtain ⟨m, em, _, l1', l2'⟩ := hcm j1 d1 d2 ed1 ed2
        have := le j1 c1 m ec1 em
        have := q1.2 _ w1
        have := q2.2 _ o1
        omega
      have toL : ∀ z, Way us ds K k.1 l z → a + u ≤ z - t := fun z w => by
        obtain ⟨k1, m1, r', b', w1, o1, e1⟩ := w.decOut (List.mem_of_getElem? ek)
        obtain ⟨j1, ej1⟩ := List.getElem?_of_mem m1
        obtain ⟨c1, ec1, q1⟩ := hr.at ej1
        obtain ⟨d1, ed1, q2⟩ := hBf.at ej1
        obtain ⟨d2, ed2, q3⟩ := hBl.at ej1
        obtain ⟨m, em, _, l1', l2'⟩ := hcm j1 d1 d2 ed1 ed2
        have := le j1 c1 m ec1 em
        have := q1.2 _ w1
        have := q3.2 _ o1
        omega
      rcases w.add1 hc h1 h2 with ⟨c', q, w⟩ | ⟨a', b', u', v', q⟩ | ⟨a', b', u', v', q⟩
      · have := toF _ w; omega
      · have := toF _ u'; have := h2 _ v'; omega
      · have := toL _ u'; have := hc _ _ v'; omega
  refine ⟨by rw [h3.n, List.length_append]; rfl, fun i k row ek er => ?_⟩
  have il := (List.getElem?_eq_some_iff.mp ek).1
  rw [List.length_append, List.length_singleton] at il
  by_cases c : i < K.length
  · rw [List.getElem?_append_left c] at ek
    obtain ⟨row1, er1, hr1⟩ := h.at ek
    have eC := List.getElem?_eq_getElem (show i < C.length by rw [lC]; exact c)
    obtain ⟨row2, er2, l2, m2⟩ := h3.r i row1 _ er1 eC
    rw [er] at er2
    cases er2
    refine ⟨by rw [List.length_append, List.length_append, l2]; rfl, fun j k' z ek' ez => ?_⟩
    have jl := (List.getElem?_eq_some_iff.mp ek').1
    rw [List.length_append, List.length_singleton] at jl
    by_cases cj : j < K.length
    · rw [List.getElem?_append_left cj] at ek'
      rw [List.getElem?_append_left (by omega)] at ez
      obtain ⟨told, et, pt⟩ := hr1.at ek'
      have eL := List.getElem?_eq_getElem (show j < Lv.length by rw [lv]; exact cj)
      obtain ⟨m, em, e, q1, q2⟩ := m2 j told _ et eL
      rw [ez] at em
      cases em
      have pc := come i k _ ek eC
      have pl := leave j k' _ ek' eL
      refine ⟨?_, fun z' w => ?_⟩
      · rcases e with e | e
        · rw [e]; exact pt.1.mono sub
        · rw [e]; exact pc.1.comp pl.1
      · rcases w.add1 hc h1 h2 with ⟨c', q, w⟩ | ⟨a', b', u', v', q⟩ | ⟨a', b', u', v', q⟩
        · have := pt.2 _ w; omega
        · have x1 := pc.2 _ (u'.mono sub)
          have x2 := pl.2 _ ((Way.up (us := us) (ds := ds) mem).comp (v'.mono sub))
          have x3 : (f, l, t).2.2 + b' = t + b' := rfl
          omega
        · have x1 := pc.2 _ ((u'.mono sub).comp (Way.down (us := us) (ds := ds) mem))
          have x2 := pl.2 _ (v'.mono sub)
          have x3 : a' + -(f, l, t).2.2 = a' - t := by show a' + -t = a' - t; omega
          omega
    · have ej : j = K.length := by omega
      subst ej
      rw [List.getElem?_append_right (Nat.le_refl _), Nat.sub_self] at ek'
      cases ek'
      rw [List.getElem?_append_right (by omega), l2, Nat.sub_self] at ez
      cases ez
      exact come i k _ ek eC
  · have ei : i = K.length := by omega
    subst ei
    rw [List.getElem?_append_right (Nat.le_refl _), Nat.sub_self] at ek
    cases ek
    rw [h3.l] at er
    cases er
    refine ⟨by rw [List.length_append, List.length_append, lv]; rfl, fun j k' z ek' ez => ?_⟩
    have jl := (List.getElem?_eq_some_iff.mp ek').1
    rw [List.length_append, List.length_singleton] at jl
    by_cases cj : j < K.length
    · rw [List.getElem?_append_left cj] at ek'
      rw [List.getElem?_append_left (by omega)] at ez
      exact leave j k' z ek' ez
    · have ej : j = K.length := by omega
      subst ej
      rw [List.getElem?_append_right (Nat.le_refl _), Nat.sub_self] at ek'
      cases ek'
      rw [List.getElem?_append_right (by omega), lv, Nat.sub_self] at ez
      cases ez
      exact LW.zero hc2
/-- kept ties stand for all of them -/
structure Stand (us ds : List (Int × Int)) (K KA : List (Int × Int × Int)) : Prop where
  s : ∀ k ∈ K, k ∈ KA
  w : ∀ x y c, Way us ds KA x y c → ∃ c', c' ≤ c ∧ Way us ds K x y c'
theorem Stand.nil : Stand us ds [] [] := ⟨fun k m => m, fun x y c w => ⟨c, Int.le_refl _, w⟩⟩
theorem Stand.lw {KA : List (Int × Int × Int)} (h : Stand us ds K KA) (l : LW us ds K x y c) : LW us ds KA x y c := ⟨l.1.mono h.s, fun z w => by
  obtain ⟨c', e, w⟩ := h.w _ _ _ w
  have := l.2 _ w
  omega⟩
theorem Stand.cons {KA : List (Int × Int × Int)} (h : Stand us ds K KA) (hc : Cons us ds K) : Cons us ds KA := fun x c w => by
  obtain ⟨c', e, w⟩ := h.w _ _ _ w
  have := hc _ _ w
  omega
theorem Stand.add {KA : List (Int × Int × Int)} {n : Int × Int × Int} (h : Stand us ds K KA) : Stand us ds (K ++ [n]) (KA ++ [n]) := by
  refine ⟨fun k m => ?_, fun x y c w => ?_⟩
  · rcases List.mem_append.mp m with m | m
    · exact List.mem_append_left _ (h.s k m)
    · exact List.mem_append_right _ m
  · induction w with
    | step x w => exact ⟨_, Int.le_refl _, .step x w⟩
    | @up k m =>
      rcases List.mem_append.mp m with m | m
      · obtain ⟨c', e, w⟩ := h.w _ _ _ (.up m)
        exact ⟨c', e, w.mono fun k m => List.mem_append_left _ m⟩
      · exact ⟨_, Int.le_refl _, .up (List.mem_append_right _ m)⟩
    | @down k m =>
      rcases List.mem_append.mp m with m | m
      · obtain ⟨c', e, w⟩ := h.w _ _ _ (.down m)
        exact ⟨c', e, w.mono fun k m => List.mem_append_left _ m⟩
      · exact ⟨_, Int.le_refl _, .down (List.mem_append_right _ m)⟩
    | comp _ _ p q =>
      obtain ⟨a, ea, wa⟩ := p
      obtain ⟨b, eb, wb⟩ := q
      exact ⟨a + b, by omega, wa.comp wb⟩
theorem Stand.told {KA : List (Int × Int × Int)} {f l t : Int} (h : Stand us ds K KA) (hc : Cons us ds K) (h1 : LW us ds K f l t) (h2 : LW us ds K l f (-t)) : Stand us ds K (KA ++ [(f, l, t)]) := by
  refine ⟨fun k m => List.mem_append_left _ (h.s k m), fun x y c w => ?_⟩
  obtain ⟨c', e, w⟩ := (h.add (n := (f, l, t))).w _ _ _ w
  obtain ⟨c2, e2, w2⟩ := w.told hc h1 h2
  exact ⟨c2, by omega, w2⟩
/-- a tie that does not go together with others -/
theorem not_cons {f l t : Int} (h : LW us ds K f l c ∧ c < t ∨ LW us ds K l f c ∧ t < -c) : ¬ Cons us ds (K ++ [(f, l, t)]) := fun hc => by
  obtain ⟨_, h1, h2⟩ := hc.of_add
  rcases h with ⟨h, e⟩ | ⟨h, e⟩
  · have := h1 _ h.1; omega
  · have := h2 _ h.1; omega
end
end Ev

/-! What ties tell of one another: one more, parts of a stretch, stretches side by side. -/
namespace Ev
section
variable {us ds : List (Int × Int)} {K : List (Int × Int × Int)} {x y z a b c d s e : Int}
theorem LW.fix (hc : Cons us ds (K ++ [(x, y, a)])) : LW us ds (K ++ [(x, y, a)]) x y a ∧ LW us ds (K ++ [(x, y, a)]) y x (-a) := by
  have m : (x, y, a) ∈ K ++ [(x, y, a)] := List.mem_append_right _ List.mem_cons_self
  refine ⟨⟨.up m, fun c w => ?_⟩, ⟨.down m, fun c w => ?_⟩⟩
  · have := hc _ _ (w.comp (.down m))
    have q : (x, y, a).2.2 = a := rfl
    omega
  · have := hc _ _ (w.comp (.up m))
    have q : (x, y, a).2.2 = a := rfl
    omega
theorem LW.fits (hc : Cons us ds K) (h : LW us ds K x y c) (g : LW us ds K y x d) (l1 : -d ≤ a) (l2 : a ≤ c) : Cons us ds (K ++ [(x, y, a)]) := hc.add (fun v w => by
  have := h.2 _ w
  omega) (fun v w => by
  have := g.2 _ w
  omega)
theorem LW.torn (h : LW us ds K x y c) (g : LW us ds K y x d) (l : a < -d ∨ c < a) : ¬ Cons us ds (K ++ [(x, y, a)]) := by
  rcases l with l | l
  · exact not_cons (.inr ⟨g, l⟩)
  · exact not_cons (.inl ⟨h, l⟩)
theorem LW.split (h : LW us ds K x z c) (g : LW us ds K x y a) (f : LW us ds K y z b) : c ≤ a + b := h.2 _ (g.1.comp f.1)
/-- from where a tie leads, and from where it begins -/
theorem LW.via (m : (x, y, s) ∈ K) (h : LW us ds K x z c) (g : LW us ds K y z e) : c = s + e := by
  have a := h.2 _ ((Way.up m).comp g.1)
  have b := g.2 _ ((Way.down m).comp h.1)
  have q : (x, y, s).2.2 = s := rfl
  omega
theorem LW.viaTo (m : (x, y, s) ∈ K) (h : LW us ds K z x c) (g : LW us ds K z y e) : e = c + s := by
  have a := g.2 _ (h.1.comp (Way.up m))
  have b := h.2 _ (g.1.comp (Way.down m))
  have q : (x, y, s).2.2 = s := rfl
  omega
theorem Cons.gap (hc : Cons us ds K) (h : LW us ds K x y c) (g : LW us ds K y x d) : 0 ≤ c + d := hc _ _ (h.1.comp g.1)
theorem LW.less {K' : List (Int × Int × Int)} (h : LW us ds K x y a) (g : LW us ds K' x y b) (s : ∀ k ∈ K, k ∈ K') : b ≤ a := g.2 _ (h.1.mono s)
theorem cons_nil_of (w : ∀ n : Int, ∃ c, Least us ds n c) (z : Least us ds 0 0) : Cons us ds [] := fun x c h => by
  have := Way.nil_iff.mp h
  rw [Int.sub_self] at this
  exact z.2 _ this
end
end Ev

set_option maxHeartbeats 1000000
/-! zip of a list and a tuple. -/
namespace Ev
open PySem PySem.Spec PyProof.Rows L2 RZ
open PySem.Sem (wp)
section
variable {prog : Program} {w : World} {A : Around} {E : Value → Shared → Prop} {s : Shared}
theorem zx_item {z tin tou ia ib la lb : Addr} {ka kb : Nat} {xs ys : Array Value} {x y a b : Value} {Q : Value → Shared → Prop} (ap : ZipApart z tin tou ia ib la lb)
    (ez : IsZip s.heap z tin tou .none) (eti : IsPair s.heap tin (.ref ia) (.ref ib)) (eto : IsPair s.heap tou a b)
    (pa : s.heap.IsListIter ia la ka) (pb : s.heap.IsTupleIter ib lb kb) (qa : s.heap.IsList la xs) (qb : s.heap.IsTuple lb ys) (ra : xs[ka]? = some x) (rb : ys[kb]? = some y)
    (fin : ∀ h', IsZip h' z tin tou (rawInt s.heap.objs.size) → IsPair h' tou x y → h'.IsListIter ia la (ka + 1) → h'.IsTupleIter ib lb (kb + 1) → IsPair h' s.heap.objs.size x y → h'.objs.size = s.heap.objs.size + 1 →
      (∀ c o, c ≠ z → c ≠ tou → c ≠ ia → c ≠ ib → s.heap.get? c = some o → h'.get? c = some o) → Q (.ref s.heap.objs.size) { s with heap := h' }) :
    wpAny (model prog w) A (Builtin.«zip.__next__» ⟨[.ref z], []⟩) (fun fin s' => ∃ v, fin = .done (.ret v) ∧ Q v s') E s := by
  show wpAny _ _ (field (.ref z) 2 >>= _) _ _ _
  refine wpAny_bind (wpAny_field ez rfl (x := .bool false) rfl ?_)
  show wpAny _ _ (field (.ref z) 3 >>= _) _ _ _
  refine wpAny_bind (wpAny_field ez rfl (x := .ref tin) rfl ?_)
  refine wpAny_bind (wpAny_seqItems eti rfl ?_)
  show wpAny _ _ (Builtin.SmallTypes.ownedTupleIsFree (.ref z) >>= _) _ _ _
  refine wpAny_bind ?_
  unfold Builtin.SmallTypes.ownedTupleIsFree
  refine wpAny_bind (wpAny_field ez rfl (x := .none) rfl (wpAny_pure ?_))
  simp only [if_true]
  refine wpAny_bind (wpAny_rule ?_)
  refine wpAny_bind (wpAny_field ez rfl (x := .ref tou) rfl ?_)
  refine wpAny_bind (wpAny_setField_rec ez (by simp) fun h₁ ez₁ sb₁ => ?_)
  replace ez₁ : IsZip h₁ z tin tou .ellipsis := ez₁
  refine wpAny_bind ?_
  simp only [List.zipIdx_cons, List.zipIdx_nil, List.forIn_cons, List.forIn_nil]

  refine wpAny_bind (wpAny_bind (wpAny_onRaise ?_))
  show wpAny _ _ (Builtin.SmallTypes.nextOf (.ref ia) >>= _) _ _ _
  refine wpAny_bind (wpAny_nextOf_list_item (pa.extBut sb₁.extBut ap.i1z) (qa.extBut sb₁.extBut ap.l1z) ra fun h₂ h1₂ sb₂ => wpAny_pure ?_)
  have eto₂ : IsPair h₂ tou a b := sb₂.extBut _ _ ap.TOi1 (sb₁.extBut _ _ ap.TOz eto)
  refine wpAny_bind (wpAny_seqItems eto₂ rfl ?_)
  refine wpAny_bind (wpAny_updateSeq_pair eto₂ fun h₃ eto₃ sb₃ => ?_)
  replace eto₃ : IsPair h₃ tou x b := eto₃
  refine wpAny_bind (wpAny_letGo (wpAny_pure ?_))

  refine wpAny_bind (wpAny_bind (wpAny_onRaise ?_))
  show wpAny _ _ (Builtin.SmallTypes.nextOf (.ref ib) >>= _) _ _ _
  refine wpAny_bind (nextOf_tuple_item (((pb.extBut sb₁.extBut ap.i2z).extBut sb₂.extBut ap.i12.symm).extBut sb₃.extBut ap.TOi2.symm)
    (((qb.extBut sb₁.extBut ap.l2z).extBut sb₂.extBut ap.l2i1).extBut sb₃.extBut ap.l2TO) rb fun h₄ h2₄ sb₄ => wpAny_pure ?_)
  have eto₄ : IsPair h₄ tou x b := sb₄.extBut _ _ ap.TOi2 eto₃
  refine wpAny_bind (wpAny_seqItems eto₄ rfl ?_)
  refine wpAny_bind (wpAny_updateSeq_pair eto₄ fun h₅ eto₅ sb₅ => ?_)
  replace eto₅ : IsPair h₅ tou x y := eto₅
  refine wpAny_bind (wpAny_letGo (wpAny_pure (wpAny_pure ?_)))

  refine wpAny_bind (wpAny_seqItems eto₅ rfl ?_)
  refine wpAny_bind (wpAny_newTuple ?_)
  have esz : h₅.objs.size = s.heap.objs.size := by rw [sb₅.1, sb₄.1, sb₃.1, sb₂.1, sb₁.1]
  have ez₅ : IsZip h₅ z tin tou .ellipsis := sb₅.extBut _ _ ap.TOz.symm (sb₄.extBut _ _ ap.i2z.symm (sb₃.extBut _ _ ap.TOz.symm (sb₂.extBut _ _ ap.i1z.symm ez₁)))
  have kp₅ : ∀ c o, c ≠ z → c ≠ tou → c ≠ ia → c ≠ ib → s.heap.get? c = some o → h₅.get? c = some o := fun c o c1 c2 c3 c4 e =>
    sb₅.extBut _ _ c2 (sb₄.extBut _ _ c4 (sb₃.extBut _ _ c2 (sb₂.extBut _ _ c3 (sb₁.extBut _ _ c1 e))))
  have h1₅ : h₅.IsListIter ia la (ka + 1) := ((h1₂.extBut sb₃.extBut ap.TOi1.symm).extBut sb₄.extBut ap.i12).extBut sb₅.extBut ap.TOi1.symm
  have h2₅ : h₅.IsTupleIter ib lb (kb + 1) := h2₄.extBut sb₅.extBut ap.TOi2.symm
  have zlt : z < h₅.objs.size := Heap.lt_size ez₅
  have toult : tou < h₅.objs.size := Heap.lt_size eto₅
  have ialt : ia < h₅.objs.size := by obtain ⟨_, e, _⟩ := h1₅; exact Heap.lt_size e
  have iblt : ib < h₅.objs.size := by obtain ⟨_, e, _⟩ := h2₅; exact Heap.lt_size e
  show wpAny _ _ (Builtin.SmallTypes.ownedTupleHandOut (.ref z) (.ref h₅.objs.size) >>= _) _ _ _
  refine wpAny_bind ?_
  unfold Builtin.SmallTypes.ownedTupleHandOut
  have ez₆ : IsZip (h₅.push { cls := .type "tuple", data := .seq #[x, y] }) z tin tou .ellipsis := Heap.get?_push_of_some _ ez₅
  refine wpAny_bind (wpAny_setField_rec ez₆ (by simp) fun h₇ ez₇ sb₇ => ?_)
  replace ez₇ : IsZip h₇ z tin tou (rawInt h₅.objs.size) := ez₇
  refine wpAny_setField_rec ez₇ (by simp) fun h₈ ez₈ sb₈ => ?_
  replace ez₈ : IsZip h₈ z tin tou (rawInt h₅.objs.size) := ez₈
  have up : ∀ c o, c ≠ z → h₅.get? c = some o → h₈.get? c = some o := fun c o c1 e => sb₈.extBut _ _ c1 (sb₇.extBut _ _ c1 (Heap.get?_push_of_some _ e))
  have hT₈ : IsPair h₈ h₅.objs.size x y := sb₈.extBut _ _ (Nat.ne_of_gt zlt) (sb₇.extBut _ _ (Nat.ne_of_gt zlt) (Heap.get?_push_size _ rfl))
  have hz8 : h₈.objs.size = h₅.objs.size + 1 := by rw [sb₈.1, sb₇.1, Heap.size_push]
  rw [esz] at ez₈ hT₈ hz8
  refine wpAny_pure ⟨_, rfl, ?_⟩
  show Q (.ref h₅.objs.size) _
  rw [esz]
  exact fin h₈ ez₈ (up _ _ ap.TOz eto₅) (h1₅.at fun o e => up _ o ap.i1z e) (h2₅.at fun o e => up _ o ap.i2z e) hT₈ hz8 fun c o c1 c2 c3 c4 e => up c o c1 (kp₅ c o c1 c2 c3 c4 e)

theorem zx_end {z tin tou ia ib la lb : Addr} {ka kb : Nat} {xs ys : Array Value} {a b : Value} {Q : Fin → Shared → Prop} (hh : A.handled = none) (ap : ZipApart z tin tou ia ib la lb)
    (ez : IsZip s.heap z tin tou .none) (eti : IsPair s.heap tin (.ref ia) (.ref ib)) (eto : IsPair s.heap tou a b)
    (pa : s.heap.IsListIter ia la ka) (pb : s.heap.IsTupleIter ib lb kb) (qa : s.heap.IsList la xs) (qb : s.heap.IsTuple lb ys) (over : xs[ka]? = none ∨ ys[kb]? = none)
    (raised : ∀ h' e, (∀ c o, c ≠ z → c ≠ tou → c ≠ ia → c ≠ ib → s.heap.get? c = some o → h'.get? c = some o) → (∃ o, h'.get? e = some o ∧ o.cls = .type "StopIteration") → E (.ref e) { s with heap := h' }) :
    wpAny (model prog w) A (Builtin.«zip.__next__» ⟨[.ref z], []⟩) Q E s := by
  show wpAny _ _ (field (.ref z) 2 >>= _) _ _ _
  refine wpAny_bind (wpAny_field ez rfl (x := .bool false) rfl ?_)
  show wpAny _ _ (field (.ref z) 3 >>= _) _ _ _
  refine wpAny_bind (wpAny_field ez rfl (x := .ref tin) rfl ?_)
  refine wpAny_bind (wpAny_seqItems eti rfl ?_)
  show wpAny _ _ (Builtin.SmallTypes.ownedTupleIsFree (.ref z) >>= _) _ _ _
  refine wpAny_bind ?_
  unfold Builtin.SmallTypes.ownedTupleIsFree
  refine wpAny_bind (wpAny_field ez rfl (x := .none) rfl (wpAny_pure ?_))
  simp only [if_true]
  refine wpAny_bind (wpAny_rule ?_)
  refine wpAny_bind (wpAny_field ez rfl (x := .ref tou) rfl ?_)
  refine wpAny_bind (wpAny_setField_rec ez (by simp) fun h₁ ez₁ sb₁ => ?_)
  replace ez₁ : IsZip h₁ z tin tou .ellipsis := ez₁
  refine wpAny_bind ?_
  simp only [List.zipIdx_cons, List.zipIdx_nil, List.forIn_cons, List.forIn_nil]
  refine wpAny_bind (wpAny_bind (wpAny_onRaise ?_))
  show wpAny _ _ (Builtin.SmallTypes.nextOf (.ref ia) >>= _) _ _ _
  cases ra : xs[ka]? with
  | none =>
    refine wpAny_bind (wpAny_nextOf_list_end hh (pa.extBut sb₁.extBut ap.i1z) (qa.extBut sb₁.extBut ap.l1z) ra fun h₂ e sb₂ he => ?_)
    obtain ⟨oe, eoe, coe⟩ := he
    have ez₂ : IsZip h₂ z tin tou .ellipsis := sb₂ _ _ ap.i1z.symm ez₁
    have nez : e ≠ z := fun x => by subst x; rw [ez₂] at eoe; cases eoe; simp at coe
    refine wpAny_setField_rec ez₂ (by simp) fun h₃ _ sb₃ => raised h₃ e (fun c o c1 _ c3 _ x => sb₃.extBut _ _ c1 (sb₂ _ _ c3 (sb₁.extBut _ _ c1 x))) ⟨oe, sb₃.extBut _ _ nez eoe, coe⟩
  | some x =>
    have rb : ys[kb]? = none := by rcases over with h | h; rw [ra] at h; cases h; exact h
    refine wpAny_bind (wpAny_nextOf_list_item (pa.extBut sb₁.extBut ap.i1z) (qa.extBut sb₁.extBut ap.l1z) ra fun h₂ h1₂ sb₂ => wpAny_pure ?_)
    have eto₂ : IsPair h₂ tou a b := sb₂.extBut _ _ ap.TOi1 (sb₁.extBut _ _ ap.TOz eto)
    refine wpAny_bind (wpAny_seqItems eto₂ rfl ?_)
    refine wpAny_bind (wpAny_updateSeq_pair eto₂ fun h₃ eto₃ sb₃ => ?_)
    refine wpAny_bind (wpAny_letGo (wpAny_pure ?_))
    refine wpAny_bind (wpAny_bind (wpAny_onRaise ?_))
    show wpAny _ _ (Builtin.SmallTypes.nextOf (.ref ib) >>= _) _ _ _
    refine wpAny_bind (nextOf_tuple_end hh (((pb.extBut sb₁.extBut ap.i2z).extBut sb₂.extBut ap.i12.symm).extBut sb₃.extBut ap.TOi2.symm)
      (((qb.extBut sb₁.extBut ap.l2z).extBut sb₂.extBut ap.l2i1).extBut sb₃.extBut ap.l2TO) rb fun h₄ e sb₄ he => ?_)
    obtain ⟨oe, eoe, coe⟩ := he
    have ez₄ : IsZip h₄ z tin tou .ellipsis := sb₄ _ _ ap.i2z.symm (sb₃.extBut _ _ ap.TOz.symm (sb₂.extBut _ _ ap.i1z.symm ez₁))
    have nez : e ≠ z := fun x => by subst x; rw [ez₄] at eoe; cases eoe; simp at coe
    refine wpAny_setField_rec ez₄ (by simp) fun h₅ _ sb₅ => raised h₅ e (fun c o c1 c2 c3 c4 x => sb₅.extBut _ _ c1 (sb₄ _ _ c4 (sb₃.extBut _ _ c2 (sb₂.extBut _ _ c3 (sb₁.extBut _ _ c1 x))))) ⟨oe, sb₅.extBut _ _ nez eoe, coe⟩

theorem zx_pyItem {z tin tou ia ib la lb : Addr} {ka kb : Nat} {xs ys : Array Value} {x y a b : Value} {Q : Option Value → Shared → Prop} (ap : ZipApart z tin tou ia ib la lb)
    (ez : IsZip s.heap z tin tou .none) (eti : IsPair s.heap tin (.ref ia) (.ref ib)) (eto : IsPair s.heap tou a b)
    (pa : s.heap.IsListIter ia la ka) (pb : s.heap.IsTupleIter ib lb kb) (qa : s.heap.IsList la xs) (qb : s.heap.IsTuple lb ys) (ra : xs[ka]? = some x) (rb : ys[kb]? = some y)
    (fin : ∀ h', IsZip h' z tin tou (rawInt s.heap.objs.size) → IsPair h' tou x y → h'.IsListIter ia la (ka + 1) → h'.IsTupleIter ib lb (kb + 1) → IsPair h' s.heap.objs.size x y → h'.objs.size = s.heap.objs.size + 1 →
      (∀ c o, c ≠ z → c ≠ tou → c ≠ ia → c ≠ ib → s.heap.get? c = some o → h'.get? c = some o) → Q (some (.ref s.heap.objs.size)) { s with heap := h' }) :
    wpAny (model prog w) A (pyNext (.ref z)) Q E s := by
  have eT : s.TypeIs (.ref z) "zip" := ⟨_, ez, rfl⟩
  unfold pyNext
  exact wpAny_bind (wpAny_attempt (wpAny_callSpecial?_slot (name := Str.ofString "__next__") eT F.slot_zip_next
    (wpAny_call_entry F.slot_zip_next eT F.entry_zip_next
      (zx_item ap ez eti eto pa pb qa qb ra rb fun h' a1 a2 a3 a4 a5 a6 a7 => wpAny_pure (fin h' a1 a2 a3 a4 a5 a6 a7)) (F.args_zip_next_1 _))))

theorem zx_pyEnd {z tin tou ia ib la lb : Addr} {ka kb : Nat} {xs ys : Array Value} {a b : Value} {Q : Option Value → Shared → Prop} (hh : A.handled = none) (ap : ZipApart z tin tou ia ib la lb)
    (ez : IsZip s.heap z tin tou .none) (eti : IsPair s.heap tin (.ref ia) (.ref ib)) (eto : IsPair s.heap tou a b)
    (pa : s.heap.IsListIter ia la ka) (pb : s.heap.IsTupleIter ib lb kb) (qa : s.heap.IsList la xs) (qb : s.heap.IsTuple lb ys) (over : xs[ka]? = none ∨ ys[kb]? = none)
    (fin : ∀ h', (∀ c o, c ≠ z → c ≠ tou → c ≠ ia → c ≠ ib → s.heap.get? c = some o → h'.get? c = some o) → Q none { s with heap := h' }) : wpAny (model prog w) A (pyNext (.ref z)) Q E s := by
  have eT : s.TypeIs (.ref z) "zip" := ⟨_, ez, rfl⟩
  unfold pyNext
  refine wpAny_bind (wpAny_attempt (wpAny_callSpecial?_slot (name := Str.ofString "__next__") eT F.slot_zip_next
    (wpAny_call_entry F.slot_zip_next eT F.entry_zip_next (zx_end hh ap ez eti eto pa pb qa qb over fun h' e hk he => ?_) (F.args_zip_next_1 _))))
  obtain ⟨o, ho, hc⟩ := he
  refine wpAny_bind (wpAny_isInstance (T := "StopIteration") (b := true) ⟨o, ho, hc⟩ isSubtype_stop ?_)
  exact wpAny_pure (fin _ hk)
end
abbrev zxH1 (h : Heap) (la : Addr) : Heap := h.push { cls := .type "list_iterator", data := .fields #[.ref la, .int 0 0] }
abbrev zxH2 (h : Heap) (la lb : Addr) : Heap := (zxH1 h la).push { cls := .type "tuple_iterator", data := .fields #[.ref lb, .int 0 0] }
abbrev zxH3 (h : Heap) (la lb : Addr) : Heap := (zxH2 h la lb).push { cls := .type "tuple", data := .seq #[.ref h.objs.size, .ref (zxH1 h la).objs.size] }
abbrev zxH4 (h : Heap) (la lb : Addr) : Heap := (zxH3 h la lb).push { cls := .type "tuple", data := .seq #[.none, .none] }
abbrev zxH5 (h : Heap) (la lb : Addr) : Heap := (zxH4 h la lb).push { cls := .type "zip", data := .fields #[.none, .bool false, .bool false, .ref (zxH2 h la lb).objs.size, .ref (zxH3 h la lb).objs.size] }

theorem zx_new (la lb : Addr) (xs ys : Array Value) :
    Meets (Builtin.«zip.__new__» ⟨[.type "zip", .ref la, .ref lb], []⟩) (fun _ R s => s.heap.IsList la xs ∧ s.heap.IsTuple lb ys ∧
      R (.ok (.ret (.ref (zxH4 s.heap la lb).objs.size))) { s with heap := zxH5 s.heap la lb }) :=
  .of_wp fun prog w A R s h => by
    obtain ⟨hp, g, d, tk, os⟩ := s; obtain ⟨qa, qb, h⟩ := h
    have subz := sub_zip
    have qla : Heap.IsList (Shared.heap ⟨hp, g, d, tk, os⟩) la xs := qa
    have qlb : Heap.IsTuple (Shared.heap ⟨hp.push { cls := .type "list_iterator", data := .fields #[.ref la, .int 0 0] }, g, d, tk, os⟩) lb ys := Heap.IsTuple.push qb _
    wp_walk using wpAny_pyIter_list qla, wpAny_pyIter_tuple qlb
    exact ⟨_, rfl, h⟩

section
variable {prog : Program} {w : World} {A : Around} {E : Value → Shared → Prop} {s : Shared}

theorem zx_call {la lb : Addr} {xs ys : Array Value} {Q : Value → Shared → Prop} (qa : s.heap.IsList la xs) (qb : s.heap.IsTuple lb ys)
    (h : ∀ h', IsZip h' (s.heap.objs.size + 4) (s.heap.objs.size + 2) (s.heap.objs.size + 3) .none → IsPair h' (s.heap.objs.size + 2) (.ref s.heap.objs.size) (.ref (s.heap.objs.size + 1)) →
      IsPair h' (s.heap.objs.size + 3) .none .none → h'.IsListIter s.heap.objs.size la 0 → h'.IsTupleIter (s.heap.objs.size + 1) lb 0 → h'.objs.size = s.heap.objs.size + 5 →
      (∀ c o, s.heap.get? c = some o → h'.get? c = some o) → Q (.ref (s.heap.objs.size + 4)) { s with heap := h' }) :
    wpAny (model prog w) A (call (.type "zip") [.ref la, .ref lb]) Q E s := by
  refine callType_new F.called_zip (by decide) (F.typeCall_zip_2 _ _) (F.newCall_zip_2 _ _) (fun obj => F.args_object_init_3 obj _ _) F.entry_zip_new
    (zx_new la lb xs ys) ⟨qa, qb, ?_⟩
  have z1 : (zxH1 s.heap la).objs.size = s.heap.objs.size + 1 := Heap.size_push ..
  have z2 : (zxH2 s.heap la lb).objs.size = s.heap.objs.size + 2 := by rw [Heap.size_push, z1]
  have z3 : (zxH3 s.heap la lb).objs.size = s.heap.objs.size + 3 := by rw [Heap.size_push, z2]
  have z4 : (zxH4 s.heap la lb).objs.size = s.heap.objs.size + 4 := by rw [Heap.size_push, z3]
  have z5 : (zxH5 s.heap la lb).objs.size = s.heap.objs.size + 5 := by rw [Heap.size_push, z4]
  have g5 : (zxH5 s.heap la lb).get? (zxH4 s.heap la lb).objs.size = some _ := Heap.get?_push_size _ rfl
  have g4 : (zxH5 s.heap la lb).get? (zxH3 s.heap la lb).objs.size = some _ := Heap.get?_push_of_some _ (Heap.get?_push_size _ rfl)
  have g3 : (zxH5 s.heap la lb).get? (zxH2 s.heap la lb).objs.size = some _ := Heap.get?_push_of_some _ (Heap.get?_push_of_some _ (Heap.get?_push_size _ rfl))
  have g2 : (zxH5 s.heap la lb).get? (zxH1 s.heap la).objs.size = some _ := Heap.get?_push_of_some _ (Heap.get?_push_of_some _ (Heap.get?_push_of_some _ (Heap.get?_push_size _ rfl)))
  have g1 : (zxH5 s.heap la lb).get? s.heap.objs.size = some _ := Heap.get?_push_of_some _ (Heap.get?_push_of_some _ (Heap.get?_push_of_some _ (Heap.get?_push_of_some _ (Heap.get?_push_size _ rfl))))
  show _ ∧ _
  rw [z2, z3, z4] at g5
  rw [z1, z2] at g3
  rw [z3] at g4
  rw [z1] at g2
  rw [z4]
  exact ⟨⟨_, g5, rfl⟩, h _ g5 g3 g4 ⟨_, g1, rfl, rfl⟩ ⟨_, g2, rfl, rfl⟩ z5 fun c o x =>
    Heap.get?_push_of_some _ (Heap.get?_push_of_some _ (Heap.get?_push_of_some _ (Heap.get?_push_of_some _ (Heap.get?_push_of_some _ x))))⟩
end
/-- a list at a and a tuple at b, item by item, as newok pairs -/
def ItzX (K : PySem.W.Frag) (a b : Addr) : It :=
  ⟨fun i H => ∃ (xs ys : List V) (x y : V), SqL K H a xs ∧ SqT K H b ys ∧ xs[i]? = some x ∧ ys[i]? = some y,
    fun i H v H' => ∃ T x y, v = .ref T ∧ H T = none ∧ H' = upd H T (.tup [x, y]) ∧ (∀ xs, SqL K H a xs → xs[i]? = some x) ∧ ∀ ys, SqT K H b ys → ys[i]? = some y,
    fun i H => ∃ xs ys : List V, SqL K H a xs ∧ SqT K H b ys ∧ (xs.length ≤ i ∨ ys.length ≤ i)⟩
theorem zx_turn {P : Program} {w : World} {K : PySem.W.Frag} {elts : List Expr} {kk : Nat} {tpos : Pos} {a b z tin tou ia ib : Addr} (ap : ZipApart z tin tou ia ib a b) :
    Turn P w K (.Tuple elts kk tpos) (ItzX K a b) [z, tin, tou, ia, ib] z (fun i h => IsZip h z tin tou .none ∧ IsPair h tin (.ref ia) (.ref ib) ∧ (∃ x y, IsPair h tou x y) ∧ h.IsListIter ia a i ∧ h.IsTupleIter ib b i) where
  mem := by simp
  obj := fun i h st c hc => by
    obtain ⟨ez, eti, ⟨x, y, eto⟩, ⟨o1, e1, _, d1⟩, ⟨o2, e2, _, d2⟩⟩ := st
    have e' : c = z ∨ c = tin ∨ c = tou ∨ c = ia ∨ c = ib := by simpa using hc
    rcases e' with q | q | q | q | q
    · rw [q]; exact ⟨_, ez, fun v q => nomatch q⟩
    · rw [q]; exact ⟨_, eti, fun v q => nomatch q⟩
    · rw [q]; exact ⟨_, eto, fun v q => nomatch q⟩
    · rw [q]; exact ⟨o1, e1, fun v q => by rw [d1] at q; cases q⟩
    · rw [q]; exact ⟨o2, e2, fun v q => by rw [d2] at q; cases q⟩
  keep := fun i h h' st k => by
    obtain ⟨ez, eti, ⟨x, y, eto⟩, pa, pb⟩ := st
    exact ⟨k z (by simp) _ ez, k tin (by simp) _ eti, ⟨x, y, k tou (by simp) _ eto⟩, pa.at fun o q => k ia (by simp) o q, pb.at fun o q => k ib (by simp) o q⟩
  item := by
    intro X hP hw hK hc i pins s σ H E I hf st hg
    subst hP hw hK
    obtain ⟨ez, eti, ⟨x0, y0, eto⟩, pa, pb⟩ := st
    obtain ⟨xs, ys, x, y, sqa, sqb, ra, rb⟩ := hg
    obtain ⟨ws, rva, p, _⟩ := I.list sqa
    obtain ⟨ws2, rvb, p2, _⟩ := I.tuple sqb
    obtain ⟨u, hu, ru⟩ := rva.get ra
    obtain ⟨u2, hu2, ru2⟩ := rvb.get rb
    have zl : z < s.heap.objs.size := Heap.lt_size ez
    refine zx_pyItem ap ez eti eto pa pb p.isList p2 (x := u) (y := u2) (by simpa using hu) (by simpa using hu2) fun h' z' tou' pa' pb' eT esz hk => ?_
    refine ⟨_, rfl, wpAny_letOwnedTupleGo_zip (s := { s with heap := h' }) z' fun h'' z'' sb => ?_⟩
    have eT2 : h''.get? s.heap.objs.size = some { cls := .type "tuple", data := .seq #[u, u2] } := (sb.2 _ (Nat.ne_of_gt zl)).trans eT
    have newok : ObjOk X.prog X.w (upd H s.heap.objs.size (.tup [x, y])) h'' s.heap.objs.size (.tup [x, y]) :=
      ⟨by show 2 ≤ sizeLine; decide, [u, u2], .cons ru (.cons ru2 .nil), ⟨_, eT2, rfl, _, rfl⟩⟩
    have I1 : Inv X pins σ (upd H s.heap.objs.size (.tup [x, y])) { s with heap := h'' } :=
      I.turnedNew (t' := s.toks) (ch := [z, tin, tou, ia, ib]) (fun c o hb q => (sb.2 c (fun q' => hb (by simp [q']))).trans (hk c o (fun q' => hb (by simp [q'])) (fun q' => hb (by simp [q'])) (fun q' => hb (by simp [q'])) (fun q' => hb (by simp [q'])) q)) hf (Nat.le_refl _) newok
    refine ⟨.ref s.heap.objs.size, _, I1, rfl, ⟨_, x, y, rfl, I.hok.fresh (Nat.le_refl _), rfl, fun l hl => by rw [I.list_inj hl sqa]; exact ra, fun l hl => by rw [I.tuple_inj hl sqb]; exact rb⟩, ⟨z'', ?_, ⟨u, u2, ?_⟩, ?_, ?_⟩, fun c mem => ?_⟩
    · exact (sb.2 _ ap.TIz).trans (hk _ _ ap.TIz ap.TITO ap.TIi1 ap.TIi2 eti)
    · exact (sb.2 _ ap.TOz).trans tou'
    · exact pa'.at fun o q => (sb.2 _ ap.i1z).trans q
    · exact pb'.at fun o q => (sb.2 _ ap.i2z).trans q
    · have hlt : c < s.heap.objs.size := by
        have e' : c = z ∨ c = tin ∨ c = tou ∨ c = ia ∨ c = ib := by simpa using mem
        rcases e' with q | q | q | q | q
        · rw [q]; exact zl
        · rw [q]; exact Heap.lt_size eti
        · rw [q]; exact Heap.lt_size eto
        · rw [q]; obtain ⟨_, e1, _⟩ := pa; exact Heap.lt_size e1
        · rw [q]; obtain ⟨_, e2, _⟩ := pb; exact Heap.lt_size e2
      rw [upd_ne (Nat.ne_of_lt hlt)]
      exact (hf c mem).1
  done := by
    intro X hP hw hK hc i pins s σ H E I hf st hg
    subst hP hw hK
    obtain ⟨ez, eti, ⟨x0, y0, eto⟩, pa, pb⟩ := st
    obtain ⟨xs, ys, sqa, sqb, over⟩ := hg
    obtain ⟨ws, rva, p, _⟩ := I.list sqa
    obtain ⟨ws2, rvb, p2, _⟩ := I.tuple sqb
    have la := rva.length
    have lb := rvb.length
    have he : ws.toArray[i]? = none ∨ ws2.toArray[i]? = none := by
      rcases over with q | q
      · exact .inl (by simp; omega)
      · exact .inr (by simp; omega)
    exact zx_pyEnd (I.ok.hd hc) ap ez eti eto pa pb p.isList p2 he fun h' hk => ⟨rfl, I.turnedL (t' := s.toks) (ch := [z, tin, tou, ia, ib]) (fun c o hb q =>
      hk c o (fun q' => hb (by simp [q'])) (fun q' => hb (by simp [q'])) (fun q' => hb (by simp [q'])) (fun q' => hb (by simp [q'])) q) hf⟩
  self := fun A i s Q E st h => wpAny_pyIter_zip st.1 h

def iZipX (K : PySem.W.Frag) (ta : TA) : L2.TI := fun σ H R => ta σ H fun vs H1 => ∃ a b xs ys, vs = [.ref a, .ref b] ∧ SqL K H1 a xs ∧ SqT K H1 b ys ∧ R (ItzX K a b) H1
theorem pi_zipX {X : Cx} {e e2 : Expr} {ta : TA} {p pos tpos : Pos} {elts : List Expr} {kk : Nat} (hg : Gl X "zip") (hm : X.mg "zip" = none) (ha : PA X [e, e2] ta)
    (hs : starEach [e, e2] X.env = (false, eval e X.env) :: starEach [e2] X.env := by rfl) (hpl : (backTo pos (starEach [e2] X.env)).any (·.1) = false := by rfl) :
    PI X (.Tuple elts kk tpos) (.Call (.Name "zip" p) [e, e2] [] pos) (iZipX X.K ta) := by
  refine ⟨fun pins s σ H R I h => ?_⟩
  refine Call_ (ld_blt I hg hm PyProof.Rows.boot_zip (PyProof.Rows.callWith_type1 (thn (ha.run pos pins s σ H _ I h) fun us s1 ⟨vs, H1, I1, r1, q1⟩ => ?_) hs hpl))
  obtain ⟨a, b, xs, ys, ex, q1⟩ := q1
  subst ex
  cases r1 with
  | cons r rr =>
    cases rr with
    | cons r' rr =>
      cases rr
      cases r
      cases r'
      have five : ∀ c, c ∈ [s1.heap.objs.size + 4, s1.heap.objs.size + 2, s1.heap.objs.size + 3, s1.heap.objs.size, s1.heap.objs.size + 1] → FpOk X pins H1 c := fun c mem => by
        have e' : c = s1.heap.objs.size + 4 ∨ c = s1.heap.objs.size + 2 ∨ c = s1.heap.objs.size + 3 ∨ c = s1.heap.objs.size ∨ c = s1.heap.objs.size + 1 := by simpa using mem
        have ge : s1.heap.objs.size ≤ c := by
          rcases e' with z | z | z | z | z
          · rw [z]; exact Nat.le_add_right _ _
          · rw [z]; exact Nat.le_add_right _ _
          · rw [z]; exact Nat.le_add_right _ _
          · rw [z]; exact Nat.le_refl _
          · rw [z]; exact Nat.le_add_right _ _
        exact I1.fpOk ge (I1.hok.fresh ge)
      obtain ⟨sqa, sqb, q⟩ := q1
      · obtain ⟨ws, rva, p1, _⟩ := I1.list sqa
        obtain ⟨ws2, rvb, p2, _⟩ := I1.tuple sqb
        obtain ⟨o2, ho2, _⟩ := id p2
        refine zx_call p1.isList (show s1.heap.IsTuple b ws2.toArray from p2) fun h' ez eti eto pa pb esz hk => wpAny_pyIter_zip ez ?_
        have I2 : Inv X pins σ H1 { s1 with heap := h' } := I1.kept (t' := s1.toks) hk
        exact ⟨s1.heap.objs.size + 4, [s1.heap.objs.size + 4, s1.heap.objs.size + 2, s1.heap.objs.size + 3, s1.heap.objs.size, s1.heap.objs.size + 1], _, _, H1, rfl, I2, zx_turn (PySem.W.ktu_apart s1.heap.objs.size a b p1.lt (Heap.lt_size ho2)), ⟨ez, eti, ⟨_, _, eto⟩, pa, pb⟩, five, q⟩

end Ev

set_option maxHeartbeats 1000000
/-! zip(*rows) where there may be no rows: nothing comes then. -/
namespace Ev
open PySem PySem.Spec PyProof.Rows L2
theorem meets_zip_0 : Meets (Builtin.«zip.__new__» ⟨[.type "zip"], []⟩) (fun _ R s =>
    ∀ h' : Heap, TupV h' s.heap.objs.size [] → ZnAt h' (s.heap.objs.size + 2) s.heap.objs.size (s.heap.objs.size + 1) .none (.bool false) → (∀ c o, s.heap.get? c = some o → h'.get? c = some o) → R (.ok (.ret (.ref (s.heap.objs.size + 2)))) { s with heap := h' }) :=
  .of_wp fun prog w A R s h => by
    have subz := sub_zip
    unfold Builtin.«zip.__new__»
    have e1 : Builtin.SmallTypes.newClass "zip" ⟨[Value.type "zip"], []⟩ = pure (Value.type "zip", []) := by
      unfold Builtin.SmallTypes.newClass
      have ty : isType (Value.type "zip") = pure true := rfl
      simp only [ty, subz, pure_bind, Bool.not_true, Bool.false_eq_true, if_false]
    refine wpAny_bind (wpAny_of_eq e1 ?_)
    show wpAny _ _ (Builtin.SmallTypes.iterAll (([] : List Addr).map Value.ref) >>= _) _ _ _
    refine wpAny_bind (iterAll_n (fun l m => by cases m) fun g its li ad it sz old => ?_)
    obtain rfl : its = [] := List.eq_nil_of_length_eq_zero li
    refine wpAny_bind (wpAny_newTuple ?_ (by show (0 : Nat) ≤ _; exact Nat.zero_le _))
    refine wpAny_bind (wpAny_newTuple ?_ (by show (0 : Nat) ≤ _; exact Nat.zero_le _))
    refine wpAny_bind ?_
    unfold Builtin.SmallTypes.newRecord
    refine wpAny_newObj_type ?_ (hd := by show (5 : Nat) ≤ _; decide)
    have sz0 : g.objs.size = s.heap.objs.size := by rw [sz]; rfl
    have z1 : (g.push { cls := .type "tuple", data := .seq (([] : List Addr).map Value.ref).toArray }).objs.size = s.heap.objs.size + 1 := by rw [Heap.size_push, sz0]
    have z2 : ((g.push { cls := .type "tuple", data := .seq (([] : List Addr).map Value.ref).toArray }).push { cls := .type "tuple", data := .seq ((([] : List Addr).map Value.ref).map fun _ => Value.none).toArray }).objs.size = s.heap.objs.size + 2 := by rw [Heap.size_push, z1]
    refine wpAny_pure ⟨_, rfl, ?_⟩
    have g0 : (((g.push { cls := .type "tuple", data := .seq (([] : List Addr).map Value.ref).toArray }).push { cls := .type "tuple", data := .seq ((([] : List Addr).map Value.ref).map fun _ => Value.none).toArray }).push { cls := .type "zip", data := .fields #[.none, .bool false, .bool false, .ref g.objs.size, .ref (g.push { cls := .type "tuple", data := .seq (([] : List Addr).map Value.ref).toArray }).objs.size] }).get? _ = some _ := Heap.get?_push_size _ rfl
    have g2 : (g.push { cls := .type "tuple", data := .seq (([] : List Addr).map Value.ref).toArray }).get? g.objs.size = some _ := Heap.get?_push_size _ rfl
    have g3 := Heap.get?_push_of_some { cls := .type "zip", data := .fields #[.none, .bool false, .bool false, .ref g.objs.size, .ref (g.push { cls := .type "tuple", data := .seq (([] : List Addr).map Value.ref).toArray }).objs.size] } (Heap.get?_push_of_some { cls := .type "tuple", data := .seq ((([] : List Addr).map Value.ref).map fun _ => Value.none).toArray } g2)
    show R (Except.ok (Flow.ret (Value.ref ((g.push { cls := .type "tuple", data := .seq (([] : List Addr).map Value.ref).toArray }).push { cls := .type "tuple", data := .seq ((([] : List Addr).map Value.ref).map fun _ => Value.none).toArray }).objs.size))) _
    rw [z2]
    rw [z2, z1, sz0] at g0
    rw [z1, sz0] at g3
    have fin := h (((g.push { cls := .type "tuple", data := .seq (([] : List Addr).map Value.ref).toArray }).push { cls := .type "tuple", data := .seq ((([] : List Addr).map Value.ref).map fun _ => Value.none).toArray }).push { cls := .type "zip", data := .fields #[.none, .bool false, .bool false, .ref s.heap.objs.size, .ref (s.heap.objs.size + 1)] }) g3 g0 fun c o e => Heap.get?_push_of_some _ (Heap.get?_push_of_some _ (Heap.get?_push_of_some _ (old c o e)))
    rw [z1, sz0]
    exact fin
section
variable {prog : Program} {w : World} {A : Around} {E : Value → Shared → Prop} {s : Shared}
theorem typeCall_zip_0 : checkTypeCall "zip" ⟨[], []⟩ = pure () := by kernel_rfl
theorem newCall_zip_0 : checkBuiltinCall "zip.__new__" ⟨[.type "zip"], []⟩ = pure () := by kernel_rfl
theorem args_object_init_0 (c : Value) : argsOk "object.__init__" ⟨[c], []⟩ := by
  unfold argsOk; rw [signature?_of (id := "object.__init__") (n := ['_', '_', 't', 'i', 'n', 'i', '_', '_']) (o := ['t', 'c', 'e', 'j', 'b', 'o']) (by kernel_rfl) F.owner_object]; kernel_rfl
theorem call_zip_0 {Q : Value → Shared → Prop} (h : ∀ h' : Heap, TupV h' s.heap.objs.size [] → ZnAt h' (s.heap.objs.size + 2) s.heap.objs.size (s.heap.objs.size + 1) .none (.bool false) → (∀ c o, s.heap.get? c = some o → h'.get? c = some o) → Q (.ref (s.heap.objs.size + 2)) { s with heap := h' }) :
    wpAny (model prog w) A (call (.type "zip") []) Q E s :=
  callType_new F.called_zip (by decide) typeCall_zip_0 newCall_zip_0 (fun obj => args_object_init_0 obj) F.entry_zip_new meets_zip_0 fun h' a1 a2 a3 => ⟨⟨_, a2, rfl⟩, h h' a1 a2 a3⟩
theorem next_end_0 {z TI TO : Addr} {Q : Fin → Shared → Prop} (hh : A.handled = none) (hz : ZnAt s.heap z TI TO .none (.bool false)) (hTI : TupV s.heap TI [])
    (hE : ∀ h' e, (∀ c o, s.heap.get? c = some o → h'.get? c = some o) → (∃ o, h'.get? e = some o ∧ o.cls = .type "StopIteration") → E (.ref e) { s with heap := h' }) :
    wpAny (model prog w) A (Builtin.«zip.__next__» ⟨[.ref z], []⟩) Q E s := by
  show wpAny _ _ (field (.ref z) 2 >>= _) _ _ _
  refine wpAny_bind (wpAny_field hz rfl (x := .bool false) rfl ?_)
  show wpAny _ _ (field (.ref z) 3 >>= _) _ _ _
  refine wpAny_bind (wpAny_field hz rfl (x := .ref TI) rfl ?_)
  refine wpAny_bind (wpAny_seqItems hTI rfl ?_)
  have emp : (([] : List Value).toArray).isEmpty = true := rfl
  simp only [emp, if_true]
  refine wpAny_bind (wpAny_rule ?_)
  refine wpAny_bind ?_
  show wpAny _ _ (newExc (.type "StopIteration") [] >>= _) _ _ _
  refine wpAny_bind ?_
  simp only [newExc, newTuple]
  refine wpAny_bind (wpAny_newObj_type ?_ (by size_fits))
  refine wpAny_bind (m := firstArgMember _ _) (wpAny_of_eq (a := Value.none) (by first | rfl | (simp only [firstArgMember]; rfl)) ?_)
  refine wpAny_newObj_type ?_ (by size_fits)
  simp only [raiseNew]
  refine wpAny_bind (wpAny_handled ?_)
  first | rw [show A.in1.handled = none from hh] | rw [hh]
  refine wpAny_bind (wpAny_pure (wpAny_throw ?_))
  exact hE _ _ (fun c o e => Heap.get?_push_of_some _ (Heap.get?_push_of_some _ e)) ⟨_, Heap.get?_push_size _ rfl, rfl⟩
theorem pyNext_zip0 {z TI TO : Addr} {Q : Option Value → Shared → Prop} (hh : A.handled = none) (hz : ZnAt s.heap z TI TO .none (.bool false)) (hTI : TupV s.heap TI [])
    (hQ : ∀ h', (∀ c o, s.heap.get? c = some o → h'.get? c = some o) → Q none { s with heap := h' }) : wpAny (model prog w) A (pyNext (.ref z)) Q E s := by
  have isz : s.TypeIs (.ref z) "zip" := ⟨_, hz, rfl⟩
  unfold pyNext
  refine wpAny_bind (wpAny_attempt (wpAny_callSpecial?_slot (name := Str.ofString "__next__") isz F.slot_zip_next (wpAny_call_entry F.slot_zip_next isz F.entry_zip_next (next_end_0 hh hz hTI fun h' e hk he => ?_) (F.args_zip_next_1 _))))
  obtain ⟨o, ho, hc⟩ := he
  refine wpAny_bind (wpAny_isInstance (T := "StopIteration") (b := true) ⟨o, ho, hc⟩ isSubtype_stop ?_)
  exact wpAny_pure (hQ _ hk)
end
/-- nothing comes -/
def It0 : It := ⟨fun _ _ => False, fun _ _ _ _ => False, fun _ _ => True⟩
theorem turn_zip0 {P : Program} {w : World} {K : PySem.W.Frag} {x : Str} {tpos : Pos} {z TI TO : Addr} : Turn P w K (.Name x tpos) It0 [z, TI] z (fun i h => ZnAt h z TI TO .none (.bool false) ∧ TupV h TI []) where
  mem := List.mem_cons_self
  obj := fun i h st c hc => by
    obtain ⟨hz, hTI⟩ := st
    rcases List.mem_cons.mp hc with rfl | hc
    · exact ⟨_, hz, fun v q => nomatch q⟩
    · rw [List.mem_singleton.mp hc]
      exact ⟨_, hTI, fun v q => nomatch q⟩
  keep := fun i h h' st k => ⟨k z List.mem_cons_self _ st.1, k TI (by simp) _ st.2⟩
  item := by
    intro X hP hw hK hc i pins s σ H E I hf st hg
    exact hg.elim
  done := by
    intro X hP hw hK hc i pins s σ H E I hf st hg
    subst hP hw hK
    exact pyNext_zip0 (I.ok.hd hc) st.1 st.2 fun h' hk => ⟨rfl, I.turnedL (t' := s.toks) (ch := [z, TI]) (fun c o _ q => hk c o q) hf⟩
  self := fun A i s Q E st h => pyIter_zipn st.1 h
def iZipE (K : PySem.W.Frag) (te : TE) : L2.TI := fun σ H R => te σ H fun y H1 => ∃ (a : Addr) (ls : List Addr), y = .ref a ∧ (SqT K H1 a (ls.map V.ref) ∨ SqL K H1 a (ls.map V.ref)) ∧ ls.length ≤ sizeLine ∧ (∀ l ∈ ls, ∃ xs, SqL K H1 l xs) ∧ (ls = [] → R It0 H1) ∧ (ls ≠ [] → R (Itzn K ls) H1)
theorem pi_zipE {X : Cx} {e : Expr} {te : TE} {p pos tpos sp_ : Pos} {x : Str} (hg : Gl X "zip") (hm : X.mg "zip" = none) (he : PE X e te)
    (hst : starEach [.Starred e sp_] X.env = [(true, eval e X.env)] := by rfl) :
    PI X (.Name x tpos) (.Call (.Name "zip" p) [.Starred e sp_] [] pos) (iZipE X.K te) := by
  refine ⟨fun pins s σ H R I h => ?_⟩
  refine Call_ (ld_blt I hg hm PyProof.Rows.boot_zip ?_)
  rw [hst]
  refine PySem.W.ks_call (P := fun _ => True) rfl (fun h _ => ⟨.machine, .inr (.inl rfl), PySem.W.Looks.of_pure rfl⟩) (PySem.W.ks_lone (thn (he.run pins s σ H _ I h) fun v s1 ⟨y, H1, I1, ry, a, ls, ey, hx, hsz, hls, q0, q⟩ => ?_))
  subst ey
  obtain rfl : v = Value.ref a := ry
  refine StX.star_any I1 hx fun us s2 I2 rv => ⟨trivial, ?_⟩
  rw [vals_refs rv]
  by_cases hne : ls = []
  · subst hne
    refine call_zip_0 fun h' hTI hz hk => pyIter_zipn hz ?_
    refine ⟨_, [_, _], _, _, H1, rfl, I2.kept (t' := s2.toks) hk, turn_zip0, ⟨hz, hTI⟩, fun c hcm => ?_, q0 rfl⟩
    have ge : s2.heap.objs.size ≤ c := by
      rcases List.mem_cons.mp hcm with rfl | hcm
      · exact Nat.le_add_right _ _
      · rw [List.mem_singleton.mp hcm]
        exact Nat.le_refl _
    exact I2.fpOk ge (I2.hok.fresh ge)
  · replace q := q hne
    obtain ⟨l, lr, rfl⟩ : ∃ l lr, ls = l :: lr := by
      cases ls with
      | nil => exact absurd rfl hne
      | cons l lr => exact ⟨l, lr, rfl⟩
    refine call_zip_n (fun m hm' => ?_) hsz fun h' its li ad it sz hTI hTO hz hk => ?_
    · obtain ⟨xs, hq⟩ := hls m hm'
      obtain ⟨its', _, p', _⟩ := I2.list hq
      exact ⟨_, p'.isList⟩
    · refine pyIter_zipn hz ?_
      have I3 : Inv X pins σ H1 { s2 with heap := h' } := I2.kept (t' := s2.toks) hk
      have ge : ∀ a ∈ its, s2.heap.objs.size ≤ a ∧ a < s2.heap.objs.size + its.length := fun a ha => by
        obtain ⟨k, hk'⟩ := List.getElem?_of_mem ha
        rw [ad k a hk']
        exact ⟨Nat.le_add_right _ _, Nat.add_lt_add_left (List.getElem?_eq_some_iff.mp hk').1 _⟩
      have old : ∀ m ∈ l :: lr, m < s2.heap.objs.size := fun m hm' => by
        obtain ⟨xs, hq⟩ := hls m hm'
        obtain ⟨its', _, p', _⟩ := I2.list hq
        exact p'.lt
      have D : ZnApart (s2.heap.objs.size + its.length + 2) (s2.heap.objs.size + its.length) (s2.heap.objs.size + its.length + 1) its (l :: lr) := by
        refine ⟨fun e => ?_, fun e => ?_, fun e => ?_, fun a ha => ⟨fun e => ?_, fun e => ?_, fun e => ?_⟩, ?_, li, fun m hm' => ⟨fun e => ?_, fun e => ?_, fun e => ?_, fun e => ?_⟩⟩
        · have : (s2.heap.objs.size + its.length : Nat) = s2.heap.objs.size + its.length + 2 := e
          omega
        · have : (s2.heap.objs.size + its.length + 1 : Nat) = s2.heap.objs.size + its.length + 2 := e
          omega
        · have : (s2.heap.objs.size + its.length : Nat) = s2.heap.objs.size + its.length + 1 := e
          omega
        · have := (ge a ha).2
          rw [e] at this
          exact absurd this (by show ¬ (s2.heap.objs.size + its.length + 2 : Nat) < s2.heap.objs.size + its.length; omega)
        · have := (ge a ha).2
          rw [e] at this
          exact absurd this (Nat.lt_irrefl _)
        · have := (ge a ha).2
          rw [e] at this
          exact absurd this (by show ¬ (s2.heap.objs.size + its.length + 1 : Nat) < s2.heap.objs.size + its.length; omega)
        · refine List.pairwise_iff_getElem.mpr fun i j hi hj hij e => ?_
          have e1 := ad i _ (List.getElem?_eq_getElem hi)
          have e2 := ad j _ (List.getElem?_eq_getElem hj)
          rw [e, e2] at e1
          have : (s2.heap.objs.size + j : Nat) = s2.heap.objs.size + i := e1
          omega
        · have := old m hm'
          rw [e] at this
          exact absurd this (by show ¬ (s2.heap.objs.size + its.length + 2 : Nat) < s2.heap.objs.size; omega)
        · have := old m hm'
          rw [e] at this
          exact absurd this (by show ¬ (s2.heap.objs.size + its.length : Nat) < s2.heap.objs.size; omega)
        · have := old m hm'
          rw [e] at this
          exact absurd this (by show ¬ (s2.heap.objs.size + its.length + 1 : Nat) < s2.heap.objs.size; omega)
        · exact absurd (Nat.lt_of_le_of_lt (ge m e).1 (old m hm')) (Nat.lt_irrefl _)
      have hne' : its ≠ [] := fun z => by rw [z] at li; cases li
      refine ⟨_, _ :: _ :: _ :: its, _, _, H1, rfl, I3, turn_zipn D hne' (by rw [li]; exact hsz), ⟨⟨_, false, hz, .inl rfl⟩, hTI, ⟨_, hTO, by rw [List.length_map]⟩, it⟩, fun c hcm => ?_, q⟩
      have hle : s2.heap.objs.size ≤ c := by
        rcases List.mem_cons.mp hcm with rfl | hcm
        · exact Nat.le_trans (Nat.le_add_right _ _) (Nat.le_add_right _ _)
        · rcases List.mem_cons.mp hcm with rfl | hcm
          · exact Nat.le_add_right _ _
          · rcases List.mem_cons.mp hcm with rfl | hcm
            · exact Nat.le_trans (Nat.le_add_right _ _) (Nat.le_add_right _ _)
            · exact (ge c hcm).1
      exact I2.fpOk hle (I2.hok.fresh hle)
end Ev

/-! A comprehension over zip(*rows), maybe no rows; each turn may make new objects. -/
namespace Ev
open PySem PySem.Spec PyProof.Rows L2
section
variable {K : PySem.W.Frag} {σ : L2.St} {H : Hp}
theorem rd_lcZS {ls : List Addr} {rows : List (List Int)} {n s1 : Nat} {te : TE} {Q : VK} (f : Nat → Int → Prop) (hr0 : rows ≠ []) (hrl : ls.length = rows.length) (hrows : ∀ (k : Nat) (l : Addr) (r : List Int), ls[k]? = some l → rows[k]? = some r → H l = some (.lst (r.map V.int)) ∧ r.length = n) (hn : n ≤ 16777000)
    (hw : ∀ x : V, L2.wipe ((L2.wipe σ [s1]).set s1 (some x)) [s1] = L2.wipe σ [s1])
    (he : ∀ (i : Nat) (T : Addr) (us : List Int) (H' : Hp) (Q' : VK), i < n → Same H H' → H' T = some (.tup (us.map V.int)) → us.length = rows.length → (∀ (k : Nat) (r : List Int), rows[k]? = some r → r[i]? = us[k]?) → (∀ (x : Int) (H'' : Hp), Same H' H'' → f i x → Q' (.int x) H'') → te ((L2.wipe σ [s1]).set s1 (some (.ref T))) H' Q')
    (q : ∀ (l : Addr) (ys : List Int) (H' : Hp), Same H H' → H l = none → H' l = some (.lst (ys.map V.int)) → ys.length = n → (∀ i x, ys[i]? = some x → f i x) → Q (.ref l) H') :
    tLc (fun _ H' R => R (Itzn K ls) H') (gName s1) tYes te [s1] σ H Q := fun l hl => by
  have get : ∀ (k : Nat) (m : Addr), ls[k]? = some m → ∃ r, rows[k]? = some r := fun k m e => by
    have : k < rows.length := by rw [← hrl]; exact (List.getElem?_eq_some_iff.mp e).1
    exact ⟨_, List.getElem?_eq_getElem this⟩
  have w : Walk (Itzn K ls) n (fun H' => Same H H') (fun i H1 v H' => ∃ (T : Addr) (us : List Int), v = .ref T ∧ H1 T = none ∧ H' = upd H1 T (.tup (us.map V.int)) ∧ us.length = rows.length ∧ ∀ (k : Nat) (r : List Int), rows[k]? = some r → r[i]? = us[k]?) := by
    refine ⟨fun i H1 hi sm => ?_, fun H1 sm => ?_, fun i H1 v H' hi sm y => ?_⟩
    · refine ⟨(rows.map fun r => V.int (r.getD i 0)), by rw [List.length_map, hrl], fun k m e => ?_⟩
      obtain ⟨r, hr⟩ := get k m e
      obtain ⟨h1, h2⟩ := hrows k m r e hr
      refine ⟨r.map V.int, V.int (r.getD i 0), SqL.of (sm _ _ h1), ?_, ?_⟩
      · rw [List.getElem?_map, List.getD_eq_getElem?_getD, List.getElem?_eq_getElem (by omega)]
        rfl
      · rw [List.getElem?_map, hr]
        rfl
    · obtain ⟨m0, lr, rfl⟩ : ∃ m lr, ls = m :: lr := by
        cases ls with
        | nil =>
          cases rows with
          | nil => exact absurd rfl hr0
          | cons _ _ => cases hrl
        | cons m lr => exact ⟨m, lr, rfl⟩
      obtain ⟨r, hr⟩ := get 0 m0 rfl
      obtain ⟨h1, h2⟩ := hrows 0 m0 r rfl hr
      exact ⟨m0, r.map V.int, rfl, SqL.of (sm _ _ h1), by rw [List.length_map]; omega⟩
    · obtain ⟨T, us, rfl, hT, rfl, lu, hu⟩ := y
      have eus : us = (rows.map fun r => r.getD i 0).map V.int := by
        refine List.ext_getElem? fun k => ?_
        by_cases c : k < ls.length
        · have e := List.getElem?_eq_getElem c
          obtain ⟨r, hr⟩ := get k _ e
          obtain ⟨h1, h2⟩ := hrows k _ r e hr
          have := hu k _ (r.map V.int) e (SqL.of (sm _ _ h1))
          rw [← this, List.getElem?_map, List.getElem?_map, List.getElem?_map, hr, List.getElem?_eq_getElem (show i < r.length by omega)]
          show _ = some (V.int (r.getD i 0))
          rw [List.getD_eq_getElem?_getD, List.getElem?_eq_getElem (show i < r.length by omega)]
          rfl
        · rw [List.getElem?_eq_none (by omega), List.getElem?_eq_none (by rw [List.length_map, List.length_map]; omega)]
      refine ⟨T, rows.map fun r => r.getD i 0, rfl, hT, by rw [eus], by rw [List.length_map], fun k r hr => ?_⟩
      have c : k < ls.length := by rw [hrl]; exact (List.getElem?_eq_some_iff.mp hr).1
      obtain ⟨h1, h2⟩ := hrows k _ r (List.getElem?_eq_getElem c) hr
      rw [List.getElem?_map, hr]
      show _ = some (r.getD i 0)
      rw [List.getD_eq_getElem?_getD, List.getElem?_eq_getElem (show i < r.length by omega)]
      rfl
  refine lc_it w (fun i H' => ∃ ys : List Int, Same H H' ∧ H' l = some (.lst (ys.map V.int)) ∧ ys.length = i ∧ ∀ j x, ys[j]? = some x → f j x) ⟨[], Same.new hl, upd_same, rfl, fun j x e => by simp at e⟩ (fun i H' _ h => by obtain ⟨_, s, _⟩ := h; exact s) (fun i v H1 H' hi h y => ?_) (fun H' h => ?_)
  · obtain ⟨ys, sm, hacc, hlen, hys⟩ := h
    obtain ⟨T, us, rfl, hT, rfl, lu, hu⟩ := y
    have s2 : Same H1 (upd H1 T (.tup (us.map V.int))) := Same.new hT
    refine ⟨hw _, ?_⟩
    dsimp only [tYes]
    rw [if_pos rfl]
    refine he i T us _ _ hi (sm.trans s2) upd_same lu hu (fun x H'' s3 fx => ⟨ys.map V.int, s3 _ _ (s2 _ _ hacc), by rw [List.length_map, sizeLine_eq]; omega, ys ++ [x], fun c o z => ?_, ?_, by rw [List.length_append, hlen]; rfl, fun j z ez => ?_⟩)
    · rw [upd_ne (ne_of_none z hl)]
      exact s3 _ _ (s2 _ _ (sm _ _ z))
    · rw [upd_same, List.map_append]
      rfl
    · rw [List.getElem?_append] at ez
      by_cases c : j < ys.length
      · rw [if_pos c] at ez
        exact hys j z ez
      · rw [if_neg c] at ez
        cases ek : j - ys.length with
        | succ k => rw [ek] at ez; cases ez
        | zero =>
          rw [ek] at ez
          cases ez
          have : j = i := by omega
          rw [this]
          exact fx
  · obtain ⟨ys, sm, hacc, hlen, hys⟩ := h
    exact q l ys H' sm hl hacc hlen hys

/-- no rows: an empty list -/
theorem rd_lcZ0E {s1 : Nat} {te : TE} {Q : VK} (q : ∀ (l : Addr) (H' : Hp), Same H H' → H l = none → H' l = some (.lst []) → Q (.ref l) H') : tLc (fun _ H' R => R It0 H') (gName s1) tYes te [s1] σ H Q := fun l hl =>
  lc_it (n := 0) (⟨fun i H1 hi _ => absurd hi (Nat.not_lt_zero i), fun H1 _ => trivial, fun i H1 v H' hi _ y => absurd hi (Nat.not_lt_zero i)⟩ : Walk It0 0 (fun H' => Same H H') (fun _ _ _ _ => False)) (fun i H' => Same H H' ∧ H' l = some (.lst [])) ⟨Same.new hl, upd_same⟩ (fun i H' _ h => h.1) (fun i v H1 H' hi h y => absurd hi (Nat.not_lt_zero i)) (fun H' h => q l H' h.1 hl h.2)
theorem rd_lcZE {tz : TE} {g : TG} {tt : TT} {te : TE} {vs : List Nat} {Q : VK} (h : tz σ H fun y H1 => ∃ (a : Addr) (ls : List Addr), y = .ref a ∧ (SqT K H1 a (ls.map V.ref) ∨ SqL K H1 a (ls.map V.ref)) ∧ ls.length ≤ sizeLine ∧ (∀ l ∈ ls, ∃ xs, SqL K H1 l xs) ∧ (ls = [] → tLc (fun _ H' R => R It0 H') g tt te vs σ H1 Q) ∧ (ls ≠ [] → tLc (fun _ H' R => R (Itzn K ls) H') g tt te vs σ H1 Q)) : tLc (iZipE K tz) g tt te vs σ H Q := h
end
end Ev

/-! Two stretches side by side; a book turned; a book scaled. -/
namespace Ev
open PySem PySem.Spec PyProof.Rows L2
section
variable {us ds : List (Int × Int)} {n m x1 y1 x2 y2 xb yb : Int}
theorem Wg.less {a b c d : Int} (h : Wg us ds a c) (g : Wg ds us b d) : Wg us ds (a - b) (c + d) := by
  have := h.add g.swap
  rw [show a + -b = a - b by omega] at this
  exact this
/-- two stretches side by side -/
theorem joined (h1 : Least ds us n x1) (g1 : Least us ds n y1) (h2 : Least ds us m x2) (g2 : Least us ds m y2) (hb : Least ds us (n + m) xb) (gb : Least us ds (n + m) yb) :
    -x1 + -x2 ≤ -xb ∧ -xb ≤ -x1 + y2 ∧ -xb ≤ y1 + -x2 ∧ yb ≤ y1 + y2 ∧ -x1 + y2 ≤ yb ∧ y1 + -x2 ≤ yb := by
  have a1 := hb.2 _ (h1.1.add h2.1)
  have a2 := h1.2 (xb + y2) (by
    have := hb.1.less g2.1
    rw [show n + m - m = n by omega] at this
    exact this)
  have a3 := h2.2 (xb + y1) (by
    have := hb.1.less g1.1
    rw [show n + m - n = m by omega] at this
    exact this)
  have a4 := gb.2 _ (g1.1.add g2.1)
  have a5 := g2.2 (yb + x1) (by
    have := gb.1.less h1.1
    rw [show n + m - n = m by omega] at this
    exact this)
  have a6 := g1.2 (yb + x2) (by
    have := gb.1.less h2.1
    rw [show n + m - m = n by omega] at this
    exact this)
  omega
end
/-! scaled: each step's worth times f and its days times s more -/
section
variable {f s : Int}
def scS (f s : Int) (p : Int × Int) : Int × Int := (p.1, f * p.2 + s * p.1)
def scD (f s : Int) (p : Int × Int) : Int × Int := (p.1, f * p.2 - s * p.1)
theorem tv_scS : ∀ U : List (Int × Int), tv (U.map (scS f s)) = f * tv U + s * tw U ∧ tw (U.map (scS f s)) = tw U
  | [] => ⟨by rw [List.map_nil, tv_nil, tw_nil]; omega, rfl⟩
  | p :: U => by
    obtain ⟨a, b⟩ := tv_scS U
    refine ⟨?_, ?_⟩
    · rw [List.map_cons, tv_cons, tv_cons, tw_cons, a, Int.mul_add, Int.mul_add]
      show f * p.2 + s * p.1 + _ = _
      omega
    · rw [List.map_cons, tw_cons, tw_cons, b]
      rfl
theorem tv_scD : ∀ U : List (Int × Int), tv (U.map (scD f s)) = f * tv U - s * tw U ∧ tw (U.map (scD f s)) = tw U
  | [] => ⟨by rw [List.map_nil, tv_nil, tw_nil]; omega, rfl⟩
  | p :: U => by
    obtain ⟨a, b⟩ := tv_scD U
    refine ⟨?_, ?_⟩
    · rw [List.map_cons, tv_cons, tv_cons, tw_cons, a, Int.mul_add, Int.mul_add]
      show f * p.2 - s * p.1 + _ = _
      omega
    · rw [List.map_cons, tw_cons, tw_cons, b]
      rfl
theorem pre_map {g : Int × Int → Int × Int} {us : List (Int × Int)} : ∀ U : List (Int × Int), (∀ p ∈ U, p ∈ us.map g) → ∃ V : List (Int × Int), (∀ p ∈ V, p ∈ us) ∧ U = V.map g
  | [], _ => ⟨[], fun p h => (by cases h), rfl⟩
  | q :: U, h => by
    obtain ⟨V, h1, rfl⟩ := pre_map U (fun p hp => h p (List.mem_cons_of_mem _ hp))
    obtain ⟨p, hp, rfl⟩ := List.mem_map.mp (h q List.mem_cons_self)
    exact ⟨p :: V, fun r hr => by
      rcases List.mem_cons.mp hr with rfl | hr
      · exact hp
      · exact h1 r hr, rfl⟩
theorem wg_scale {us ds : List (Int × Int)} {n x : Int} (h : Wg us ds n x) : Wg (us.map (scS f s)) (ds.map (scD f s)) n (f * x + s * n) := by
  obtain ⟨U, D, h1, h2, rfl, rfl⟩ := h
  refine ⟨U.map (scS f s), D.map (scD f s), fun p hp => ?_, fun p hp => ?_, ?_, ?_⟩
  · obtain ⟨q, hq, rfl⟩ := List.mem_map.mp hp
    exact List.mem_map.mpr ⟨q, h1 q hq, rfl⟩
  · obtain ⟨q, hq, rfl⟩ := List.mem_map.mp hp
    exact List.mem_map.mpr ⟨q, h2 q hq, rfl⟩
  · rw [(tv_scS U).2, (tv_scD D).2]
  · rw [(tv_scS U).1, (tv_scD D).1, Int.mul_add, Int.mul_sub]
    omega
theorem wg_unscale {us ds : List (Int × Int)} {n z : Int} (h : Wg (us.map (scS f s)) (ds.map (scD f s)) n z) : ∃ x, Wg us ds n x ∧ z = f * x + s * n := by
  obtain ⟨U, D, h1, h2, rfl, rfl⟩ := h
  obtain ⟨V, v1, rfl⟩ := pre_map U h1
  obtain ⟨W, w1, rfl⟩ := pre_map D h2
  refine ⟨tv V + tv W, ⟨V, W, v1, w1, by rw [(tv_scS V).2, (tv_scD W).2], rfl⟩, ?_⟩
  rw [(tv_scS V).1, (tv_scD W).1, (tv_scS V).2, (tv_scD W).2, Int.mul_add, Int.mul_sub]
  omega
/-- the least worth of a scaled book -/
theorem least_scale {us ds : List (Int × Int)} {n x z : Int} (hf : 0 < f) (h : Least us ds n x) (g : Least (us.map (scS f s)) (ds.map (scD f s)) n z) : z = f * x + s * n := by
  obtain ⟨x', w, rfl⟩ := wg_unscale g.1
  have a := g.2 _ (wg_scale (f := f) (s := s) h.1)
  have b := Int.mul_le_mul_of_nonneg_left (h.2 _ w) (show 0 ≤ f by omega)
  omega
end
end Ev

namespace Ev
open PySem PySem.Spec PyProof.Rows L2
section
local macro_rules | `(tactic| wtm_at "ev_ne") => `(tactic| first | assumption | exact Ne.symm (by assumption))
section
local macro_rules | `(tactic| wtm_at "ev_lk") => `(tactic| first | assumption | exact upd_same | (refine lk_new' (by assumption) ?_; wtm_at "ev_lk") | (refine lk_ne (by wtm_at "ev_ne") ?_; wtm_at "ev_lk") | (refine same_lk (by assumption) ?_; wtm_at "ev_lk"))
section
local macro_rules | `(tactic| wtm_at "ev_sm") => `(tactic| first | assumption | exact Same.refl _ | (refine same_new ?_ (by assumption); wtm_at "ev_sm") | (refine Same.trans ?_ (by assumption); wtm_at "ev_sm"))
section
local macro_rules | `(tactic| wtm_at "ev_no") => `(tactic| first | assumption | exact no_back (by assumption) | (refine no_new ?_ (by wtm_at "ev_ne"); wtm_at "ev_no"))
section
local macro_rules | `(tactic| wtm_at "ev_sq") => `(tactic| first | assumption | exact SqL.of (by wtm_at "ev_lk") | exact SqT.of (by wtm_at "ev_lk"))
section
local macro_rules | `(tactic| wtm_at "ev_step") => `(tactic| with_reducible first
  | refine rd_seq ?_ | refine rd_next ?_ | refine rd_ret ?_ | refine rd_retN ?_ | refine rd_if ?_ | refine rd_drop ?_ | refine rd_asg ?_ | refine rd_name ?_ | refine rd_gsub ?_ | refine rd_gnil ?_ | refine rd_gcons ?_
  | refine rd_c ?_ | refine rd_op ?_ | refine rd_un ?_ | refine rd_rI0 ?_ | refine rd_rU ?_ | refine rd_tup ?_ | refine rd_lst ?_ | refine rd_nil ?_ | refine rd_cons ?_ | refine rd_cb ?_ | refine rd_call ?_ | refine rd_sl ?_ | refine rd_no ?_ | refine rd_part ?_
  | refine rd_test ?_ | refine rd_tB ?_ | refine rd_not ?_ | refine rd_and ?_ | refine rd_or ?_ | refine rd_notV ?_ | refine rd_andV ?_ | refine rd_orV ?_ | refine rd_ifE ?_ | refine rd_bl ?_ | refine rd_ex ?_
  | refine rd_rng1 ?_ | refine rd_overL ?_ | refine rd_overT ?_ | refine rd_forA ?_ | refine rd_forB ?_ | refine rd_forC ?_ | refine rd_lcA ?_ | refine rd_lcB ?_ | refine rd_lcC ?_ | refine rd_bm ?_ | refine rd_mkv ?_ | refine rd_xv ?_
  | refine rd_T ?_ | refine rd_F ?_ | refine rd_True ?_ | refine rd_False ?_ | refine rd_int ?_ | refine rd_intB ?_ | refine rd_one ?_ | refine rd_two ?_)
section
local macro_rules | `(tactic| wtm_at "ev_cond") => `(tactic| first | assumption | exact (show (0 : Int) < _ by decide) | exact (show (0 : Int) < _ by omega) | exact Or.inl ⟨by decide, by decide⟩ | exact Or.inr ⟨by decide, by decide⟩ | exact pow_cond (by decide) (by decide) (by first | decide | omega) (by first | decide | omega) | exact wide_div (b := 2000) (by first | assumption | decide | omega) (by first | decide | omega) (by decide) (by decide))
section
local macro_rules | `(tactic| wtm_at "ev_side") => `(tactic| first
  | ((with_reducible apply rd_var); exact rfl)
  | ((with_reducible apply rd_ixL); (wtm_at "ev_sq"); exact rfl)
  | ((with_reducible apply rd_ixT); (wtm_at "ev_sq"); exact rfl)
  | ((with_reducible apply rd_eq); exact rfl)
  | ((with_reducible apply rd_ne); exact rfl)
  | ((with_reducible apply rd_setL); (wtm_at "ev_lk"); exact rfl)
  | ((with_reducible apply rd_gtup); (wtm_at "ev_sq"); exact rfl)
  | ((with_reducible apply rd_len); (wtm_at "ev_sq"))
  | ((with_reducible apply rd_lenT); (wtm_at "ev_sq"))
  | ((with_reducible apply rd_rg); (first | decide | omega); (first | decide | omega))
  | ((with_reducible apply rd_atL); (wtm_at "ev_sq"))
  | ((with_reducible apply rd_atT); (wtm_at "ev_sq"))
  | ((with_reducible apply rd_tyL); (wtm_at "ev_sq"))
  | ((with_reducible apply rd_cat); (wtm_at "ev_lk"); (wtm_at "ev_lk"); exact Nat.le_of_ble_eq_true rfl)
  | ((with_reducible apply rd_size); exact Nat.le_of_ble_eq_true rfl)
  | ((with_reducible apply rd_rI); wtm_at "ev_cond"))
section
local macro_rules | `(tactic| wtm_at "ev_rd") => `(tactic| repeat (first | wtm_at "ev_step" | wtm_at "ev_side"))
section
local macro_rules | `(tactic| wtm_at "ev_go") => `(tactic| ((try simp only [L2.start, List.map_cons, List.map_nil, List.length_cons, List.length_nil, Nat.reduceAdd, Nat.reduceSub, List.replicate_succ, List.replicate_zero, List.cons_append, List.nil_append]); wtm_at "ev_rd"; (try simp only [List.set_cons_zero, List.set_cons_succ, upd_upd])))
section
def top (i : Nat) : Stmt := PySem.Challenge.pw_everyspan_k32_whole_strictest_rules_and.main.body.getD i (.Pass ⟨0, 0, 0, 0⟩)
abbrev s_is_rule : Stmt := top 4
theorem sc_is_rule : FnScope ["rule", "width", "least", "most"] ["rule"] (defScope s_is_rule) := ⟨rfl, rfl, rfl, by decide +kernel, rfl, by decide +kernel, by decide +kernel⟩
abbrev s_highest_least : Stmt := top 5
theorem sc_highest_least : FnScope ["bounds", "best_width", "best_least", "_", "width", "least"] ["bounds"] (defScope s_highest_least) := ⟨rfl, rfl, rfl, by decide +kernel, rfl, by decide +kernel, by decide +kernel⟩
abbrev s_lowest_most : Stmt := top 6
theorem sc_lowest_most : FnScope ["bounds", "best_width", "_", "best_most", "width", "most"] ["bounds"] (defScope s_lowest_most) := ⟨rfl, rfl, rfl, by decide +kernel, rfl, by decide +kernel, by decide +kernel⟩
abbrev s_first_conflict : Stmt := top 7
theorem sc_first_conflict : FnScope ["bounds", "lowest", "lowest_width", "i", "width", "least", "_"] ["bounds"] (defScope s_first_conflict) := ⟨rfl, rfl, rfl, by decide +kernel, rfl, by decide +kernel, by decide +kernel⟩
abbrev s_first_exceeded : Stmt := top 8
theorem sc_first_exceeded : FnScope ["bounds", "width", "least", "j", "other_width", "_", "most"] ["bounds", "width", "least"] (defScope s_first_exceeded) := ⟨rfl, rfl, rfl, by decide +kernel, rfl, by decide +kernel, by decide +kernel⟩
abbrev s_SpanError_init : Stmt := inClass (top 10) 0
theorem sc_SpanError_init : FnScope ["self", "value"] ["self", "value"] (defScope s_SpanError_init) := ⟨rfl, rfl, rfl, by decide +kernel, rfl, by decide +kernel, by decide +kernel⟩
abbrev s_check_rows : Stmt := top 18
theorem sc_check_rows : FnScope ["book", "conflict"] ["book"] (defScope s_check_rows) := ⟨rfl, rfl, rfl, by decide +kernel, rfl, by decide +kernel, by decide +kernel⟩
abbrev s_check_length : Stmt := top 19
theorem sc_check_length : FnScope ["length"] ["length"] (defScope s_check_length) := ⟨rfl, rfl, rfl, by decide +kernel, rfl, by decide +kernel, by decide +kernel⟩
abbrev s_check_known : Stmt := top 20
theorem sc_check_known : FnScope ["known", "number", "told"] ["known"] (defScope s_check_known) := ⟨rfl, rfl, rfl, by decide +kernel, rfl, by decide +kernel, by decide +kernel⟩
abbrev s_strictest_least : Stmt := top 22
theorem sc_strictest_least : FnScope ["book", "width", "most", "most_width"] ["book", "width"] (defScope s_strictest_least) := ⟨rfl, rfl, rfl, by decide +kernel, rfl, by decide +kernel, by decide +kernel⟩
abbrev s_strictest_most : Stmt := top 23
theorem sc_strictest_most : FnScope ["book", "width", "least", "least_width"] ["book", "width"] (defScope s_strictest_most) := ⟨rfl, rfl, rfl, by decide +kernel, rfl, by decide +kernel, by decide +kernel⟩
abbrev s_check_width : Stmt := top 24
theorem sc_check_width : FnScope ["width"] ["width"] (defScope s_check_width) := ⟨rfl, rfl, rfl, by decide +kernel, rfl, by decide +kernel, by decide +kernel⟩
abbrev s_strictest : Stmt := top 26
theorem sc_strictest : FnScope ["steps", "best_width", "best_worth", "width", "worth", "more"] ["steps"] (defScope s_strictest) := ⟨rfl, rfl, rfl, by decide +kernel, rfl, by decide +kernel, by decide +kernel⟩
abbrev s_needed_steps : Stmt := top 27
theorem sc_needed_steps : FnScope ["steps", "back", "day", "wide", "top", "kept", "width", "worth", "many", "rest", "told"] ["steps", "back"] (defScope s_needed_steps) := ⟨rfl, rfl, rfl, by decide +kernel, rfl, by decide +kernel, by decide +kernel⟩
abbrev s_near_sums : Stmt := top 28
theorem sc_near_sums : FnScope ["ups", "downs", "wide", "top", "reach", "many", "forward", "backward", "keys", "width", "worth", "place", "key", "step"] ["ups", "downs"] (defScope s_near_sums) := ⟨rfl, rfl, rfl, by decide +kernel, rfl, by decide +kernel, by decide +kernel⟩
abbrev s_least_keys : Stmt := top 29
theorem sc_least_keys : FnScope ["moves", "reach", "many", "more", "beyond", "best", "heap", "key", "place", "move", "_"] ["moves", "reach"] (defScope s_least_keys) := ⟨rfl, rfl, rfl, by decide +kernel, rfl, by decide +kernel, by decide +kernel⟩
abbrev s_sums_of : Stmt := top 31
theorem sc_sums_of : FnScope ["bounds", "_", "low", "high", "ups", "downs", "near", "reach", "width", "most", "least"] ["bounds"] (defScope s_sums_of) := ⟨rfl, rfl, rfl, by decide +kernel, rfl, by decide +kernel, by decide +kernel⟩
abbrev s_Sums_init : Stmt := inClass (top 32) 0
theorem sc_Sums_init : FnScope ["self", "up", "down"] ["self", "up", "down"] (defScope s_Sums_init) := ⟨rfl, rfl, rfl, by decide +kernel, rfl, by decide +kernel, by decide +kernel⟩
abbrev s_Sums_greatest : Stmt := inClass (top 32) 3
theorem sc_Sums_greatest : FnScope ["self", "length"] ["self", "length"] (defScope s_Sums_greatest) := ⟨rfl, rfl, rfl, by decide +kernel, rfl, by decide +kernel, by decide +kernel⟩
abbrev s_Sums_least : Stmt := inClass (top 32) 4
theorem sc_Sums_least : FnScope ["self", "length"] ["self", "length"] (defScope s_Sums_least) := ⟨rfl, rfl, rfl, by decide +kernel, rfl, by decide +kernel, by decide +kernel⟩
abbrev s_Sums_rise : Stmt := inClass (top 32) 5
theorem sc_Sums_rise : FnScope ["self", "days"] ["self", "days"] (defScope s_Sums_rise) := ⟨rfl, rfl, rfl, by decide +kernel, rfl, by decide +kernel, by decide +kernel⟩
abbrev s_Side_init : Stmt := inClass (top 33) 0
theorem sc_Side_init : FnScope ["self", "near", "steps", "width", "worth"] ["self", "near", "steps"] (defScope s_Side_init) := ⟨rfl, rfl, rfl, by decide +kernel, rfl, by decide +kernel, by decide +kernel⟩
abbrev s_Side_greatest : Stmt := inClass (top 33) 3
theorem sc_Side_greatest : FnScope ["self", "length", "rest"] ["self", "length"] (defScope s_Side_greatest) := ⟨rfl, rfl, rfl, by decide +kernel, rfl, by decide +kernel, by decide +kernel⟩
abbrev s_Side_find_far : Stmt := inClass (top 33) 6
theorem sc_Side_find_far : FnScope ["self", "wide", "top", "size", "worth", "entries", "table", "width", "length", "rest", "entry"] ["self"] (defScope s_Side_find_far) := ⟨rfl, rfl, rfl, by decide +kernel, rfl, by decide +kernel, by decide +kernel⟩
abbrev s_Side_lengthen : Stmt := inClass (top 33) 7
theorem sc_Side_lengthen : FnScope ["self", "length", "near", "wide", "at", "ends", "size", "rows", "width", "worth", "_", "told", "column"] ["self", "length"] (defScope s_Side_lengthen) := ⟨rfl, rfl, rfl, by decide +kernel, rfl, by decide +kernel, by decide +kernel⟩
abbrev s_spread : Stmt := top 34
theorem sc_spread : FnScope ["table", "width", "more", "wide", "shift", "circles", "first", "at", "entry", "_"] ["table", "width", "more"] (defScope s_spread) := ⟨rfl, rfl, rfl, by decide +kernel, rfl, by decide +kernel, by decide +kernel⟩
abbrev s_Book_init : Stmt := inClass (top 36) 0
theorem sc_Book_init : FnScope ["self", "low", "high", "rules", "number", "rule"] ["self", "low", "high", "rules"] (defScope s_Book_init) := ⟨rfl, rfl, rfl, by decide +kernel, rfl, by decide +kernel, by decide +kernel⟩
abbrev s_Book_bounds : Stmt := inClass (top 36) 5
theorem sc_Book_bounds : FnScope ["self"] ["self"] (defScope s_Book_bounds) := ⟨rfl, rfl, rfl, by decide +kernel, rfl, by decide +kernel, by decide +kernel⟩
abbrev s_Book_conflict : Stmt := inClass (top 36) 9
theorem sc_Book_conflict : FnScope ["self"] ["self"] (defScope s_Book_conflict) := ⟨rfl, rfl, rfl, by decide +kernel, rfl, by decide +kernel, by decide +kernel⟩
abbrev s_Book_sums : Stmt := inClass (top 36) 10
theorem sc_Book_sums : FnScope ["self"] ["self"] (defScope s_Book_sums) := ⟨rfl, rfl, rfl, by decide +kernel, rfl, by decide +kernel, by decide +kernel⟩
abbrev s_Ties_init : Stmt := inClass (top 38) 0
theorem sc_Ties_init : FnScope ["self", "sums"] ["self", "sums"] (defScope s_Ties_init) := ⟨rfl, rfl, rfl, by decide +kernel, rfl, by decide +kernel, by decide +kernel⟩
abbrev s_Ties_add_tie : Stmt := inClass (top 38) 2
theorem sc_Ties_add_tie : FnScope ["self", "first", "last", "total", "ways", "last_ways", "least", "greatest", "leaving", "coming", "here", "there", "row"] ["self", "first", "last", "total"] (defScope s_Ties_add_tie) := ⟨rfl, rfl, rfl, by decide +kernel, rfl, by decide +kernel, by decide +kernel⟩
abbrev s_Ties_add_known : Stmt := inClass (top 38) 3
theorem sc_Ties_add_known : FnScope ["self", "known", "number", "begin", "length", "total"] ["self", "known"] (defScope s_Ties_add_known) := ⟨rfl, rfl, rfl, by decide +kernel, rfl, by decide +kernel, by decide +kernel⟩
abbrev s_Ties_sure : Stmt := inClass (top 38) 4
theorem sc_Ties_sure : FnScope ["self", "first", "last"] ["self", "first", "last"] (defScope s_Ties_sure) := ⟨rfl, rfl, rfl, by decide +kernel, rfl, by decide +kernel, by decide +kernel⟩
abbrev s_Ties_ways : Stmt := inClass (top 38) 6
theorem sc_Ties_ways : FnScope ["self", "place", "sums", "leaving", "coming", "first", "last", "total", "column"] ["self", "place"] (defScope s_Ties_ways) := ⟨rfl, rfl, rfl, by decide +kernel, rfl, by decide +kernel, by decide +kernel⟩
abbrev s_Ties_heights : Stmt := inClass (top 38) 7
theorem sc_Ties_heights : FnScope ["self", "days", "ways", "last_ways", "least", "greatest"] ["self", "days", "ways", "last_ways"] (defScope s_Ties_heights) := ⟨rfl, rfl, rfl, by decide +kernel, rfl, by decide +kernel, by decide +kernel⟩
abbrev s_Ties_extend : Stmt := inClass (top 38) 8
theorem sc_Ties_extend : FnScope ["self", "leaving", "coming", "rows", "row", "come", "told", "leave"] ["self", "leaving", "coming"] (defScope s_Ties_extend) := ⟨rfl, rfl, rfl, by decide +kernel, rfl, by decide +kernel, by decide +kernel⟩
abbrev s_least_joined : Stmt := top 39
theorem sc_least_joined : FnScope ["worths", "other_worths", "worth", "other"] ["worths", "other_worths"] (defScope s_least_joined) := ⟨rfl, rfl, rfl, by decide +kernel, rfl, by decide +kernel, by decide +kernel⟩
abbrev s_tied : Stmt := top 40
theorem sc_tied : FnScope ["sums", "known", "ties", "number"] ["sums", "known"] (defScope s_tied) := ⟨rfl, rfl, rfl, by decide +kernel, rfl, by decide +kernel, by decide +kernel⟩
abbrev s_first_wrong : Stmt := top 42
theorem sc_first_wrong : FnScope ["book", "known"] ["book", "known"] (defScope s_first_wrong) := ⟨rfl, rfl, rfl, by decide +kernel, rfl, by decide +kernel, by decide +kernel⟩
abbrev s_sure_sums : Stmt := top 43
theorem sc_sure_sums : FnScope ["book", "known", "begin", "length", "ties"] ["book", "known", "begin", "length"] (defScope s_sure_sums) := ⟨rfl, rfl, rfl, by decide +kernel, rfl, by decide +kernel, by decide +kernel⟩
abbrev s_greatest_sum : Stmt := top 45
theorem sc_greatest_sum : FnScope ["book", "length"] ["book", "length"] (defScope s_greatest_sum) := ⟨rfl, rfl, rfl, by decide +kernel, rfl, by decide +kernel, by decide +kernel⟩
abbrev s_least_sum : Stmt := top 46
theorem sc_least_sum : FnScope ["book", "length"] ["book", "length"] (defScope s_least_sum) := ⟨rfl, rfl, rfl, by decide +kernel, rfl, by decide +kernel, by decide +kernel⟩
abbrev s_shares : Stmt := top 47
theorem sc_shares : FnScope ["book", "least", "least_width", "most", "most_width"] ["book"] (defScope s_shares) := ⟨rfl, rfl, rfl, by decide +kernel, rfl, by decide +kernel, by decide +kernel⟩
abbrev s_lowest_terms : Stmt := top 48
theorem sc_lowest_terms : FnScope ["above", "below", "common"] ["above", "below"] (defScope s_lowest_terms) := ⟨rfl, rfl, rfl, by decide +kernel, rfl, by decide +kernel, by decide +kernel⟩
abbrev s_pool : Stmt := top 50
theorem sc_pool : FnScope ["script", "spot", "cell"] ["script", "spot"] (defScope s_pool) := ⟨rfl, rfl, rfl, by decide +kernel, rfl, by decide +kernel, by decide +kernel⟩
abbrev s_draw : Stmt := top 51
theorem sc_draw : FnScope ["pool", "many", "drawn", "mixed"] ["pool", "many"] (defScope s_draw) := ⟨rfl, rfl, rfl, by decide +kernel, rfl, by decide +kernel, by decide +kernel⟩
abbrev s_kind : Stmt := top 52
theorem sc_kind : FnScope ["pool", "wide", "often", "bottom_day", "top_day", "under", "lines", "over", "turn", "size", "few", "more"] ["pool", "wide", "often"] (defScope s_kind) := ⟨rfl, rfl, rfl, by decide +kernel, rfl, by decide +kernel, by decide +kernel⟩
abbrev s_made : Stmt := top 53
theorem sc_made : FnScope ["kind"] ["kind"] (defScope s_made) := ⟨rfl, rfl, rfl, by decide +kernel, rfl, by decide +kernel, by decide +kernel⟩
abbrev s_law_shares : Stmt := top 54
theorem sc_law_shares : FnScope ["kind", "lower", "upper", "size", "few", "more"] ["kind"] (defScope s_law_shares) := ⟨rfl, rfl, rfl, by decide +kernel, rfl, by decide +kernel, by decide +kernel⟩
abbrev s_amount : Stmt := top 55
theorem sc_amount : FnScope ["share", "phase", "first_one", "size", "end"] ["share", "phase", "first_one", "size"] (defScope s_amount) := ⟨rfl, rfl, rfl, by decide +kernel, rfl, by decide +kernel, by decide +kernel⟩
abbrev s_ties_of : Stmt := top 56
theorem sc_ties_of : FnScope ["pool", "share", "phase", "ties", "turn", "first_one", "size"] ["pool", "share"] (defScope s_ties_of) := ⟨rfl, rfl, rfl, by decide +kernel, rfl, by decide +kernel, by decide +kernel⟩
abbrev s_right : Stmt := top 57
theorem sc_right : FnScope ["pool", "kind", "made", "size", "lower", "upper", "few", "more", "under", "over", "told", "pair"] ["pool"] (defScope s_right) := ⟨rfl, rfl, rfl, by decide +kernel, rfl, by decide +kernel, by decide +kernel⟩
abbrev s_law : Stmt := top 58
theorem sc_law : FnScope ["script", "spot", "pool", "turn"] ["script"] (defScope s_law) := ⟨rfl, rfl, rfl, by decide +kernel, rfl, by decide +kernel, by decide +kernel⟩
/-- names of the text that the module does not shadow -/
structure Blt (mg : Str → Option Value) : Prop where
  n_int : mg "int" = none
  n_max : mg "max" = none
  n_min : mg "min" = none
  n_abs : mg "abs" = none
  n_len : mg "len" = none
  n_repr : mg "repr" = none
  n_isinstance : mg "isinstance" = none
  n_range : mg "range" = none
  n_str : mg "str" = none
  n_list : mg "list" = none
  n_enumerate : mg "enumerate" = none
  n_divmod : mg "divmod" = none
  n_zip : mg "zip" = none
  n_ValueError : mg "ValueError" = none
/-- a number of a bounded size -/
def Num (i : Int) : Prop := i.natAbs < 2 ^ 1000
theorem Num.mul {i j : Int} (a : Num i) (b : Num j) : CMulW i j := wide_mul a b (by decide) (by decide) (by decide)
/-- a rule, and a list of rules -/
def Rl (H : Hp) (v : V) : Prop := ∃ (a : Addr) (w l m : Int), v = .ref a ∧ H a = some (.tup [.int w, .int l, .int m]) ∧ Num w ∧ Num l ∧ Num m
def Rls (H : Hp) (L : List V) : Prop := ∀ x ∈ L, Rl H x
theorem Rl.mono {H H' : Hp} {v : V} (h : Rl H v) (s : Same H H') : Rl H' v := by
  obtain ⟨a, w, l, m, rfl, e, b⟩ := h
  exact ⟨a, w, l, m, rfl, s _ _ e, b⟩
theorem Rls.mono {H H' : Hp} {L : List V} (h : Rls H L) (s : Same H H') : Rls H' L := fun x hx => (h x hx).mono s
theorem sqL_same {K : PySem.W.Frag} {H H' : Hp} {a : Addr} {xs : List V} (h : SqL K H a xs) (e : Same H H') : SqL K H' a xs :=
  h.elim (fun h => .inl (h.elim (fun h => .inl (e _ _ h)) fun ⟨o, h⟩ => .inr ⟨o, e _ _ h⟩)) fun h => .inr h
theorem rd_par {i j : Nat} {ta : TA} {D : Ends} {σ : L2.St} {H : Hp} (h : ta σ H fun vs H1 => ∃ v w, vs = [v, w] ∧ D.nx ((σ.set i (some v)).set j (some w)) H1) : tPar i j ta D σ H := h
theorem rd_par2 {v w : V} {A : V → V → Prop} (q : A v w) : ∃ x y, [v, w] = [x, y] ∧ A x y := ⟨v, w, rfl, q⟩
local macro_rules | `(tactic| wtm_at "ev_step") => `(tactic| with_reducible first | refine rd_par ?_ | refine rd_par2 ?_ | refine rd_forD ?_)
local macro_rules | `(tactic| wtm_at "ev_side") => `(tactic| ((with_reducible apply rd_enumL); (wtm_at "ev_sq")))
local macro_rules | `(tactic| wtm_at "ev_cond") => `(tactic| exact Num.mul (by assumption) (by assumption))
section
variable {P : Program} {w : World} {K : PySem.W.Frag} {mg : Str → Option Value} {base : Heap}
end
def PoolL (L : List V) (n : Int) : Prop := ∃ z m c : Int, L = [.int z, .int m, .int c] ∧ 0 ≤ m ∧ m < 4611686018427387904 ∧ 0 ≤ c ∧ c ≤ n
theorem PoolL.le {L : List V} {n m : Int} (h : PoolL L n) (e : n ≤ m) : PoolL L m := by
  obtain ⟨z, a, c, rfl, h1, h2, h3, h4⟩ := h
  exact ⟨z, a, c, rfl, h1, h2, h3, Int.le_trans h4 e⟩
def spDraw : Sp := fun vs H Q _ => ∃ (p : Addr) (L : List V) (n m : Int), vs = [.ref p, .int m] ∧ H p = some (.lst L) ∧ PoolL L n ∧ n ≤ 1000000000 ∧ 0 < m ∧ m < 2 ^ 2000 ∧ ∀ (d : Int) (L' : List V), 0 ≤ d → d < m → PoolL L' (n + 1) → Q (.int d) (upd H p (.lst L'))
theorem rd_draw {H : Hp} {Q : VK} {E : XK} {p : Addr} {L : List V} {n m : Int} (hp : H p = some (.lst L)) (hL : PoolL L n) (hn : n ≤ 1000000000) (h0 : 0 < m) (hm : m < 2 ^ 2000)
    (q : ∀ (d : Int) (L' : List V), 0 ≤ d → d < m → PoolL L' (n + 1) → Q (.int d) (upd H p (.lst L'))) : spDraw ([.ref p, .int m] ++ []) H Q E := ⟨p, L, n, m, rfl, hp, hL, hn, h0, hm, q⟩
section
variable {P : Program} {w : World} {K : PySem.W.Frag} {mg : Str → Option Value} {base : Heap} {fI c0 c1 c2 c3 c4 c5 c6 c7 c8 c9 c10 c11 : Addr}
set_option maxHeartbeats 1000000 in
theorem ok_draw {f : Addr} {fd : FuncData} (F : Fun K "_law_draw" "_law_draw" s_draw f fd) (T : Blt mg) : FnOk P w K mg base CX0 1 f fd ["pool", "many"] spDraw := by
  refine F.ok sc_draw (fun vs H Q E h => ?_) (fun cdv A outer s H vs Q E hr h => ?_)
  · obtain ⟨p, L, n, m, rfl, _⟩ := h
    rfl
  · obtain ⟨p, L, n, m, rfl, hp, ⟨z, y, c, rfl, hy0, hy1, hc0, hc1⟩, hn, hm, hm2, k⟩ := h
    refine ⟨_, (pss_cons (ps_if (pt_cmpR op_gt (pe_ix ix_list (pv 0) pe_int (fun _ _ => rfl)) pe_int (nomark _)) 
        (pss_cons (ps_set (i := 2) sc_draw.nd rfl (Or.inl rfl) (pe_op op_mod (pe_callTy call_int1 (by rfl) T.n_int boot_int (pa_cons (pe_ix ix_list (pv 0) pe_int (fun _ _ => rfl)) pa_nil)) (pv 1)))
        (pss_cons (ps_asg (pe_op op_fdivW (pe_ix ix_list (pv 0) pe_int (fun _ _ => rfl)) (pv 1)) (pg_sub (pv 0) pe_int set_list))
        (pss_one (ps_ret (pv 2))))) pss_nil)
      (pss_cons (ps_asg (pe_op op_add (pe_ix ix_list (pv 0) pe_int (fun _ _ => rfl)) pe_int) (pg_sub (pv 0) pe_int set_list))
      (pss_cons (ps_set (i := 3) sc_draw.nd rfl (Or.inl rfl) (pe_op op_mod (pe_callTy call_int1 (by rfl) T.n_int boot_int (pa_cons (pe_op op_powW (pe_op op_add (pe_ix ix_list (pv 0) pe_int (fun _ _ => rfl)) (pe_op op_mul pe_int (pe_ix ix_list (pv 0) pe_int (fun _ _ => rfl)))) pe_int) pa_nil)) pe_int))
      (pss_cons (ps_set (i := 3) sc_draw.nd rfl (Or.inl rfl) (pe_op op_mod (pe_callTy call_int1 (by rfl) T.n_int boot_int (pa_cons (pe_op op_powW (pe_op op_add (pv 3) (pe_op op_mul pe_int (pe_ix ix_list (pv 0) pe_int (fun _ _ => rfl)))) pe_int) pa_nil)) pe_int))
      (pss_one (ps_ret (pe_op op_mod (pe_callTy call_int1 (by rfl) T.n_int boot_int (pa_cons (pe_op op_fdivW (pv 3) pe_int) pa_nil)) (pv 1)))))))), ?_⟩
    wtm_at "ev_go"
    refine rd_ite (fun hz => ?_) (fun hz => ?_)
    · wtm_at "ev_go"
      exact k _ _ (Int.emod_nonneg _ (by omega)) (Int.emod_lt_of_pos _ hm) ⟨_, _, _, rfl, hy0, hy1, hc0, by omega⟩
    · wtm_at "ev_go"
      exact k _ _ (Int.emod_nonneg _ (by omega)) (Int.emod_lt_of_pos _ hm) ⟨_, _, _, rfl, hy0, hy1, by omega, by omega⟩
def spPool (K : PySem.W.Frag) : Sp := fun vs H Q _ => ∃ (a : Addr) (ns : List Int) (i : Int), vs = [.ref a, .int i] ∧ SqL K H a (ns.map V.int) ∧ 0 ≤ i ∧ i ≤ 100 ∧ ∀ (p : Addr) (L : List V), H p = none → PoolL L 0 → Q (.ref p) (upd H p (.lst L))
set_option maxHeartbeats 1000000 in
theorem ok_pool {f : Addr} {fd : FuncData} (F : Fun K "_law_pool" "_law_pool" s_pool f fd) (T : Blt mg) : FnOk P w K mg base CX0 1 f fd ["script", "spot"] (spPool K) := by
  refine F.ok sc_pool (fun vs H Q E h => ?_) (fun cdv A outer s H vs Q E hr h => ?_)
  · obtain ⟨a, ns, i, rfl, _⟩ := h
    rfl
  · obtain ⟨a, ns, i, rfl, hS, hi0, hi1, k⟩ := h
    have fin : ∀ (x c : Int) (p : Addr), H p = none → Q (.ref p) (upd H p (.lst [.int x, .int (c % 2305843009213693951 + 7368787 * (i + 1)), .int 0])) := fun x c p hp =>
      k p _ hp ⟨_, _, _, rfl, by have := Int.emod_nonneg c (by decide : (2305843009213693951 : Int) ≠ 0); omega, by have := Int.emod_lt_of_pos c (by decide : (0 : Int) < 2305843009213693951); omega, by decide, by decide⟩
    refine ⟨_, (pss_cons (ps_set (i := 2) sc_pool.nd rfl (Or.inl rfl) pe_int)
      (pss_cons (ps_if (pt_cmpR op_lt (pv 1) (pe_callB call_len_seq (by rfl) T.n_len PySem.boot_len (pa_cons (pv 0) pa_nil)) (nomark _)) 
        (pss_one (ps_set (i := 2) sc_pool.nd rfl (Or.inl rfl) (pe_ix ix_list (pv 0) (pv 1) (fun _ _ => rfl)))) pss_nil)
      (pss_one (ps_ret (pe_lst (pa_cons (pe_callB (call_max2 rfl) (by rfl) T.n_max boot_max (pa_cons pe_int (pa_cons (pe_op op_sub (pe_callB call_abs (by rfl) T.n_abs boot_abs (pa_cons (pv 2) pa_nil)) (pe_op op_powW pe_int pe_int)) pa_nil))) (pa_cons (pe_op op_add (pe_op op_mod (pe_callTy call_int1 (by rfl) T.n_int boot_int (pa_cons (pv 2) pa_nil)) pe_int) (pe_op op_mul pe_int (pe_op op_add (pv 1) pe_int))) (pa_cons pe_int pa_nil)))))))), ?_⟩
    wtm_at "ev_go"
    rw [List.length_map]
    refine rd_ite (fun hl => ?_) (fun hl => ?_)
    · obtain ⟨z, hz⟩ := at_int hi0 hl
      wtm_at "ev_go"
      refine rd_ixL hS hz ?_
      wtm_at "ev_go"
      exact fun p hp => fin _ _ p hp
    · wtm_at "ev_go"
      exact fun p hp => fin _ _ p hp
end
def Fr (p : Addr) (H H' : Hp) : Prop := ∀ b o, H b = some o → b ≠ p → H' b = some o
theorem Fr.trans {p : Addr} {H H1 H2 : Hp} (h : Fr p H H1) (g : Fr p H1 H2) : Fr p H H2 := fun b o z n => g b o (h b o z n) n
theorem Fr.same {p : Addr} {H H1 H2 : Hp} (h : Fr p H H1) (g : Same H1 H2) : Fr p H H2 := fun b o z n => g b o (h b o z n)
theorem Fr.put {p : Addr} {H H1 : Hp} {x : HO} (h : Fr p H H1) : Fr p H (upd H1 p x) := fun b o z n => lk_ne n (h b o z n)
theorem Fr.of {p : Addr} {H H1 : Hp} (h : Same H H1) : Fr p H H1 := fun b o z _ => h b o z
/-- a list of rules with these numbers -/
def RlR (H : Hp) (L : List V) (rs : List (Int × Int × Int)) : Prop := L.length = rs.length ∧ ∀ (i : Nat) (v : V), L[i]? = some v → ∃ (a : Addr) (r : Int × Int × Int), v = .ref a ∧ rs[i]? = some r ∧ H a = some (.tup [.int r.1, .int r.2.1, .int r.2.2]) ∧ Num r.1 ∧ Num r.2.1 ∧ Num r.2.2
theorem RlR.mono {H H' : Hp} {L : List V} {rs : List (Int × Int × Int)} (h : RlR H L rs) (s : Same H H') : RlR H' L rs := ⟨h.1, fun i v e => by obtain ⟨a, r, h1, h2, h3, h4⟩ := h.2 i v e; exact ⟨a, r, h1, h2, s _ _ h3, h4⟩⟩
theorem RlR.rls {H : Hp} {L : List V} {rs : List (Int × Int × Int)} (h : RlR H L rs) : Rls H L := fun x hx => by
  obtain ⟨i, hi⟩ := List.getElem?_of_mem hx
  obtain ⟨a, r, h1, h2, h3, h4, h5, h6⟩ := h.2 i x hi
  exact ⟨a, r.1, r.2.1, r.2.2, h1, h3, h4, h5, h6⟩
def okR (r : Int × Int × Int) : Bool := decide (1 ≤ r.1) && decide (r.2.1 ≤ r.2.2)
theorem at_intM {ns : List Int} {i : Int} (h0 : 0 ≤ i) (h : i < (ns.length : Int)) : ∃ z, z ∈ ns ∧ atI (ns.map V.int) i = some (.int z) := by
  obtain ⟨k, rfl⟩ : ∃ k : Nat, i = (k : Int) := ⟨i.toNat, by omega⟩
  have hk : k < ns.length := by omega
  exact ⟨ns[k], List.getElem_mem hk, atI_nat (by rw [List.getElem?_map, List.getElem?_eq_getElem hk]; rfl)⟩
def lineD (r : Int × Int × Int) : PyData := .tuple [.int r.1, .int r.2.1, .int r.2.2]
theorem RlR.all {K : PySem.W.Frag} {H : Hp} : ∀ {L : List V} {rs : List (Int × Int × Int)}, RlR H L rs → DpAll K H L (rs.map lineD)
  | [], [], _ => .nil
  | [], _ :: _, h => by cases h.1
  | _ :: _, [], h => by cases h.1
  | v :: L, r :: rs, h => by
    obtain ⟨a, r', rfl, e, ha, _⟩ := h.2 0 v rfl
    cases e
    refine .cons (.tup (SqT.of ha) (.cons (.int _) (.cons (.int _) (.cons (.int _) .nil)))) (RlR.all ⟨by have := h.1; simpa using this, fun i w e => ?_⟩)
    obtain ⟨b, q, h1, h2, h3⟩ := h.2 (i + 1) w e
    exact ⟨b, q, h1, h2, h3⟩
theorem RlR.put {H : Hp} {L : List V} {rs : List (Int × Int × Int)} {p : Addr} {xs : List V} {o : HO} (h : RlR H L rs) (hp : H p = some (.lst xs)) : RlR (upd H p o) L rs :=
  ⟨h.1, fun i v e => by obtain ⟨a, r, h1, h2, h3, h4⟩ := h.2 i v e; exact ⟨a, r, h1, h2, lk_ne (ne_of h3 hp (fun z => by cases z)) h3, h4⟩⟩
theorem RlR.add {H : Hp} {L : List V} {rs : List (Int × Int × Int)} {a : Addr} {w l m : Int} (h : RlR H L rs) (ha : H a = some (.tup [.int w, .int l, .int m])) (h1 : Num w) (h2 : Num l) (h3 : Num m) : RlR H (L ++ [.ref a]) (rs ++ [(w, l, m)]) := by
  refine ⟨by rw [List.length_append, List.length_append, h.1]; rfl, fun i v e => ?_⟩
  by_cases hi : i < L.length
  · rw [List.getElem?_append_left hi] at e
    obtain ⟨b, r, q1, q2, q3⟩ := h.2 i v e
    exact ⟨b, r, q1, by rw [List.getElem?_append_left (by rw [← h.1]; exact hi)]; exact q2, q3⟩
  · have hi' : i = L.length := by
      have := (List.getElem?_eq_some_iff.mp e).1
      rw [List.length_append, List.length_singleton] at this
      omega
    subst hi'
    rw [List.getElem?_append_right (Nat.le_refl _), Nat.sub_self] at e
    cases e
    exact ⟨a, (w, l, m), rfl, by rw [h.1, List.getElem?_append_right (Nat.le_refl _), Nat.sub_self]; rfl, ha, h1, h2, h3⟩
theorem num_of {i : Int} (h : i.natAbs < 10 ^ 9) : Num i := Nat.lt_trans h (by decide +kernel)
/-- small numbers all -/
def Small (rs : List (Int × Int × Int)) : Prop := ∀ r ∈ rs, (r.1.natAbs < 10 ^ 9 ∧ r.2.1.natAbs < 10 ^ 9 ∧ r.2.2.natAbs < 10 ^ 9)
theorem Small.sh {rs : List (Int × Int × Int)} (h : Small rs) (hl : rs.length ≤ 100) : Sh (.list (rs.map lineD)) 4000 2 := by
  refine (Sh.list (n := 36) (k := 1) fun d hd => ?_).mono (by rw [List.length_map]; omega) (Nat.le_refl _)
  obtain ⟨r, hr, rfl⟩ := List.mem_map.mp hd
  obtain ⟨h1, h2, h3⟩ := h r hr
  exact Sh.tup (n := 10) (k := 0) (ds := [.int r.2.2]) fun x hx => by
    simp only [List.mem_cons, List.not_mem_nil, or_false] at hx
    rcases hx with rfl | rfl | rfl
    · exact Sh.int h1
    · exact Sh.int h2
    · exact Sh.int h3
end

section
local macro_rules | `(tactic| wtm_at "ev_step") => `(tactic| with_reducible first | refine rd_par ?_ | refine rd_par2 ?_ | refine rd_forD ?_)
section
local macro_rules | `(tactic| wtm_at "ev_side") => `(tactic| ((with_reducible apply rd_enumL); (wtm_at "ev_sq")))
section
local macro_rules | `(tactic| wtm_at "ev_cond") => `(tactic| exact Num.mul (by assumption) (by assumption))
section
/-! ### a book's numbers, with a share that all bounds let through -/
def Shared (lo hi : Int) (rs : List (Int × Int × Int)) : Prop := ∃ o u : Int, 0 < u ∧ lo * u ≤ o ∧ o ≤ hi * u ∧ ∀ r ∈ rs, r.2.1 * u ≤ r.1 * o ∧ r.1 * o ≤ r.2.2 * u
/-- the numbers stay small -/
def Within (wd : Int) (rs : List (Int × Int × Int)) : Prop := ∀ r ∈ rs, 1 ≤ r.1 ∧ r.1 ≤ wd ∧ -1000 ≤ r.2.1 ∧ r.2.1 ≤ 1000 ∧ -1000 ≤ r.2.2 ∧ r.2.2 ≤ 1000
def spKind : Sp := fun vs H Q _ => ∃ (p : Addr) (L : List V) (n wd often : Int), vs = [.ref p, .int wd, .int often] ∧ H p = some (.lst L) ∧ PoolL L n ∧ n ≤ 1000000 ∧ 1 ≤ wd ∧ wd ≤ 40 ∧ 0 ≤ often ∧ often ≤ 90 ∧
  ∀ (kd l : Addr) (L' R : List V) (rs : List (Int × Int × Int)) (lo hi : Int) (H' : Hp), Fr p H H' → H' p = some (.lst L') → PoolL L' (n + 1000) → H' kd = some (.tup [.int lo, .int hi, .ref l]) → H kd = none → H' l = some (.lst R) → H l = none → kd ≠ l → RlR H' R rs → (rs.length : Int) ≤ often →
    -20 ≤ lo → lo ≤ hi → hi ≤ 20 → Within wd rs → Shared lo hi rs → Q (.ref kd) H'
theorem floor_low {t u z : Int} (hu : 0 < u) (h1 : -800 * u ≤ t) (h2 : t ≤ 800 * u) (hz : 0 ≤ z) : (if t / u - z > -1000 then t / u - z else -1000) * u ≤ t ∧ -1000 ≤ (if t / u - z > -1000 then t / u - z else -1000) ∧ (if t / u - z > -1000 then t / u - z else -1000) ≤ 1000 := by
  have a1 : t / u * u ≤ t := Int.ediv_mul_le t (by omega)
  generalize t / u = q at a1 ⊢
  have a2 : q ≤ 800 := by
    by_cases h : q ≤ 800
    · exact h
    · have := Int.mul_le_mul_of_nonneg_right (show (801 : Int) ≤ q by omega) (show 0 ≤ u by omega)
      omega
  have a3 : 0 ≤ z * u := Int.mul_nonneg hz (by omega)
  by_cases h : q - z > -1000
  · rw [if_pos h]
    refine ⟨?_, by omega, by omega⟩
    rw [Int.sub_mul]
    omega
  · rw [if_neg h]
    exact ⟨by omega, by omega, by omega⟩
theorem ceil_high {t u y : Int} (hu : 0 < u) (h1 : -800 * u ≤ t) (h2 : t ≤ 800 * u) (hy : 0 ≤ y) : t ≤ (if 0 - (0 - t) / u + y < 1000 then 0 - (0 - t) / u + y else 1000) * u ∧ -1000 ≤ (if 0 - (0 - t) / u + y < 1000 then 0 - (0 - t) / u + y else 1000) ∧ (if 0 - (0 - t) / u + y < 1000 then 0 - (0 - t) / u + y else 1000) ≤ 1000 := by
  have a1 : (0 - t) / u * u ≤ 0 - t := Int.ediv_mul_le (0 - t) (by omega)
  generalize (0 - t) / u = q at a1 ⊢
  have a2 : q ≤ 800 := by
    by_cases h : q ≤ 800
    · exact h
    · have := Int.mul_le_mul_of_nonneg_right (show (801 : Int) ≤ q by omega) (show 0 ≤ u by omega)
      omega
  have a3 : 0 ≤ y * u := Int.mul_nonneg hy (by omega)
  by_cases h : 0 - q + y < 1000
  · rw [if_pos h]
    refine ⟨?_, by omega, by omega⟩
    rw [Int.add_mul, Int.sub_mul]
    omega
  · rw [if_neg h]
    exact ⟨by omega, by omega, by omega⟩
theorem times_in {s o u : Int} (hs : 1 ≤ s) (hs' : s ≤ 40) (hu : 0 < u) (h1 : -20 * u ≤ o) (h2 : o ≤ 20 * u) : -800 * u ≤ s * o ∧ s * o ≤ 800 * u := by
  have b1 := Int.mul_le_mul_of_nonneg_left h1 (show 0 ≤ s by omega)
  have b2 := Int.mul_le_mul_of_nonneg_left h2 (show 0 ≤ s by omega)
  have b3 := Int.mul_le_mul_of_nonneg_right hs' (show 0 ≤ u by omega)
  rw [Int.mul_left_comm] at b1 b2
  exact ⟨by omega, by omega⟩
theorem lt2000 {m : Int} (h : m < 1000000000) : m < 2 ^ 2000 := Int.lt_trans h (by decide +kernel)
section
variable {P : Program} {w : World} {K : PySem.W.Frag} {mg : Str → Option Value} {base : Heap}
set_option maxHeartbeats 4000000 in
theorem ok_kind {f : Addr} {fd : FuncData} (F : Fun K "_law_kind" "_law_kind" s_kind f fd) (T : Blt mg) (GD : CalN P w K mg base 1 "_law_draw" spDraw) : FnOk P w K mg base CX0 2 f fd ["pool", "wide", "often"] spKind := by
  refine F.ok sc_kind (fun vs H Q E h => ?_) (fun cdv A outer s H vs Q E hr h => ?_)
  · obtain ⟨p, L, n, wd, often, rfl, _⟩ := h
    rfl
  · obtain ⟨p, L, n, wd, often, rfl, hp, hL, hn, w1, w2, o1, o2, k⟩ := h
    refine ⟨_, (pss_cons (ps_set (i := 3) sc_kind.nd rfl (Or.inl rfl) (pe_ix ix_list (pe_lst (pa_cons pe_int (pa_cons pe_int (pa_cons (pe_op op_sub (pe_op op_sub pe_int pe_int) (pe_cN GD hr (by decide) (by rfl) (pa_cons (pv 0) (pa_cons pe_int pa_nil)))) (pa_cons (pe_op op_sub (pe_cN GD hr (by decide) (by rfl) (pa_cons (pv 0) (pa_cons pe_int pa_nil))) pe_int) pa_nil))))) (pe_cN GD hr (by decide) (by rfl) (pa_cons (pv 0) (pa_cons pe_int pa_nil))) (fun _ _ => rfl)))
      (pss_cons (ps_set (i := 4) sc_kind.nd rfl (Or.inl rfl) (pe_callB (call_min2 rfl) (by rfl) T.n_min boot_min (pa_cons pe_int (pa_cons (pe_op op_add (pv 3) (pe_ix ix_list (pe_lst (pa_cons pe_int (pa_cons pe_int (pa_cons (pe_op op_add pe_int (pe_cN GD hr (by decide) (by rfl) (pa_cons (pv 0) (pa_cons pe_int pa_nil)))) (pa_cons (pe_cN GD hr (by decide) (by rfl) (pa_cons (pv 0) (pa_cons pe_int pa_nil))) pa_nil))))) (pe_cN GD hr (by decide) (by rfl) (pa_cons (pv 0) (pa_cons pe_int pa_nil))) (fun _ _ => rfl))) pa_nil))))
      (pss_cons (ps_par (i := 5) (j := 6) (by rfl) sc_kind.nd rfl rfl (by decide) rfl rfl (pa_cons (pe_op op_add pe_int (pe_cN GD hr (by decide) (by rfl) (pa_cons (pv 0) (pa_cons pe_int pa_nil)))) (pa_cons (pe_lst pa_nil) pa_nil)) (by rfl))
      (pss_cons (ps_set (i := 7) sc_kind.nd rfl (Or.inl rfl) (pe_op op_add (pe_op op_mulW (pv 3) (pv 5)) (pe_cN GD hr (by decide) (by rfl) (pa_cons (pv 0) (pa_cons (pe_op op_add (pe_op op_mulW (pe_op op_sub (pv 4) (pv 3)) (pv 5)) pe_int) pa_nil)))))
      (pss_cons (ps_for PassesOwn.never rfl (pi_range1 (by rfl) T.n_range (pa_cons (pe_cN GD hr (by decide) (by rfl) (pa_cons (pv 0) (pa_cons (pe_op op_add (pv 2) pe_int) pa_nil))) pa_nil)) (pg_name (i := 8) sc_kind.nd rfl (Or.inl rfl)) 
        (pss_cons (ps_set (i := 9) sc_kind.nd rfl (Or.inl rfl) (pe_op op_add pe_int (pe_cN GD hr (by decide) (by rfl) (pa_cons (pv 0) (pa_cons (pv 1) pa_nil)))))
        (pss_cons (ps_set (i := 10) sc_kind.nd rfl (Or.inl rfl) (pe_op op_sub (pe_op op_fdivW (pe_op op_mulW (pv 9) (pv 7)) (pv 5)) (pe_ix ix_list (pe_lst (pa_cons pe_int (pa_cons pe_int (pa_cons (pe_cN GD hr (by decide) (by rfl) (pa_cons (pv 0) (pa_cons pe_int pa_nil))) (pa_cons (pe_cN GD hr (by decide) (by rfl) (pa_cons (pv 0) (pa_cons (pe_op op_mulW pe_int (pv 9)) pa_nil))) pa_nil))))) (pe_cN GD hr (by decide) (by rfl) (pa_cons (pv 0) (pa_cons pe_int pa_nil))) (fun _ _ => rfl))))
        (pss_cons (ps_set (i := 11) sc_kind.nd rfl (Or.inl rfl) (pe_op op_sub pe_int (pe_op op_fdivW (pe_op op_sub pe_int (pe_op op_mulW (pv 9) (pv 7))) (pv 5))))
        (pss_cons (ps_set (i := 11) sc_kind.nd rfl (Or.inl rfl) (pe_op op_add (pv 11) (pe_ix ix_list (pe_lst (pa_cons pe_int (pa_cons pe_int (pa_cons (pe_cN GD hr (by decide) (by rfl) (pa_cons (pv 0) (pa_cons pe_int pa_nil))) (pa_cons (pe_cN GD hr (by decide) (by rfl) (pa_cons (pv 0) (pa_cons (pe_op op_mulW pe_int (pv 9)) pa_nil))) pa_nil))))) (pe_cN GD hr (by decide) (by rfl) (pa_cons (pv 0) (pa_cons pe_int pa_nil))) (fun _ _ => rfl))))
        (pss_one (ps_expr (pe_bm PySem.F.plainAttrs_list PySem.F.slot_list_append PySem.F.type_list_append mt_append (pv 6) (pa_cons (pe_tup (pa_cons (pv 9) (pa_cons (pe_callB (call_max2 rfl) (by rfl) T.n_max boot_max (pa_cons (pe_un un_neg pe_int) (pa_cons (pv 10) pa_nil))) (pa_cons (pe_callB (call_min2 rfl) (by rfl) T.n_min boot_min (pa_cons pe_int (pa_cons (pv 11) pa_nil))) pa_nil)))) pa_nil)))))))))
      (pss_one (ps_ret (pe_tup (pa_cons (pv 3) (pa_cons (pv 4) (pa_cons (pv 6) pa_nil))))))))))), ?_⟩
    wtm_at "ev_go"
    refine rd_draw (by wtm_at "ev_lk") hL (by omega) (by decide) (by decide +kernel) (fun d1 Ld1 ad1 bd1 hLd1 => ?_)
    wtm_at "ev_go"
    refine rd_draw (by wtm_at "ev_lk") hLd1 (by omega) (by decide) (by decide +kernel) (fun d2 Ld2 ad2 bd2 hLd2 => ?_)
    wtm_at "ev_go"
    intro q1 hq1
    have nq1 := hq1
    simp only [upd_none] at nq1
    repeat obtain ⟨_, nq1⟩ := nq1
    wtm_at "ev_go"
    refine rd_draw (by wtm_at "ev_lk") hLd2 (by omega) (by decide) (by decide +kernel) (fun d3 Ld3 ad3 bd3 hLd3 => ?_)
    wtm_at "ev_go"
    obtain ⟨lo, mlo, elo⟩ := at_intM (ns := [0, 0, 0 - 1 - d1, d2 - 20]) ad3 bd3
    have clo : -20 ≤ lo ∧ lo ≤ 20 := by
      simp only [List.mem_cons, List.not_mem_nil, or_false] at mlo
      omega
    refine rd_ixL (SqL.of (by wtm_at "ev_lk")) elo ?_
    wtm_at "ev_go"
    refine rd_draw (by wtm_at "ev_lk") hLd3 (by omega) (by decide) (by decide +kernel) (fun d4 Ld4 ad4 bd4 hLd4 => ?_)
    wtm_at "ev_go"
    refine rd_draw (by wtm_at "ev_lk") hLd4 (by omega) (by decide) (by decide +kernel) (fun d5 Ld5 ad5 bd5 hLd5 => ?_)
    wtm_at "ev_go"
    intro q2 hq2
    have nq2 := hq2
    simp only [upd_none] at nq2
    repeat obtain ⟨_, nq2⟩ := nq2
    wtm_at "ev_go"
    refine rd_draw (by wtm_at "ev_lk") hLd5 (by omega) (by decide) (by decide +kernel) (fun d6 Ld6 ad6 bd6 hLd6 => ?_)
    wtm_at "ev_go"
    obtain ⟨z6, m6, e6⟩ := at_intM (ns := [1, 1, 1 + d4, d5]) ad6 bd6
    have c6 : 0 ≤ z6 ∧ z6 ≤ 20 := by
      simp only [List.mem_cons, List.not_mem_nil, or_false] at m6
      omega
    refine rd_ixL (SqL.of (by wtm_at "ev_lk")) e6 ?_
    wtm_at "ev_go"
    have chi : lo ≤ (if lo + z6 < 20 then lo + z6 else 20) ∧ (if lo + z6 < 20 then lo + z6 else 20) ≤ 20 := by split <;> omega
    generalize (if lo + z6 < 20 then lo + z6 else 20) = hi at chi ⊢
    refine rd_draw (by wtm_at "ev_lk") hLd6 (by omega) (by decide) (by decide +kernel) (fun d7 Ld7 ad7 bd7 hLd7 => ?_)
    wtm_at "ev_go"
    have num_lo : Num lo := num_of (by omega)
    have num_u : Num (1 + d7) := num_of (by omega)
    have num_w : Num (hi - lo) := num_of (by omega)
    have W0 : 0 ≤ (hi - lo) * (1 + d7) := Int.mul_nonneg (by omega) (by omega)
    have W1 : (hi - lo) * (1 + d7) ≤ 40 * 12 := Int.mul_le_mul (by omega) (by omega) (by omega) (by omega)
    intro l hl
    have nl := hl
    simp only [upd_none] at nl
    repeat obtain ⟨_, nl⟩ := nl
    wtm_at "ev_go"
    refine rd_draw (by wtm_at "ev_lk") hLd7 (by omega) (by omega) (lt2000 (by omega)) (fun d8 Ld8 ad8 bd8 hLd8 => ?_)
    wtm_at "ev_go"
    refine rd_draw (by wtm_at "ev_lk") hLd8 (by omega) (by omega) (lt2000 (by omega)) (fun d9 Ld9 ad9 bd9 hLd9 => ?_)
    wtm_at "ev_go"
    have U0 : 0 < 1 + d7 := by omega
    have U1 : 1 + d7 ≤ 12 := by omega
    generalize 1 + d7 = u at num_u W0 W1 U0 U1 bd8 ⊢
    have O0 : lo * u ≤ lo * u + d8 := by omega
    have O1 : lo * u + d8 ≤ hi * u := by
      rw [Int.sub_mul] at bd8
      omega
    have A1 := Int.mul_le_mul_of_nonneg_right clo.1 (show 0 ≤ u by omega)
    have A2 := Int.mul_le_mul_of_nonneg_right chi.2 (show 0 ≤ u by omega)
    generalize lo * u + d8 = o at O0 O1 ⊢
    have O2 : -20 * u ≤ o := by omega
    have O3 : o ≤ 20 * u := by omega
    have num_o : Num o := num_of (by omega)
    refine rd_forR (fun i σ' H' => ∃ (x8 x9 x10 x11 : Option V) (L' R : List V) (rs : List (Int × Int × Int)), σ' = [some (.ref p), some (.int wd), some (.int often), some (.int lo), some (.int hi), some (.int u), some (.ref l), some (.int o), x8, x9, x10, x11] ∧
      H' p = some (.lst L') ∧ PoolL L' (n + 9 + (i : Int) * 10) ∧ Fr p H H' ∧ H' l = some (.lst R) ∧ RlR H' R rs ∧ rs.length = i ∧ Within wd rs ∧ ∀ r ∈ rs, r.2.1 * u ≤ r.1 * o ∧ r.1 * o ≤ r.2.2 * u)
      ⟨_, _, _, _, Ld9, [], [], rfl, by wtm_at "ev_lk", hLd9.le (by omega), fun b o e nb => by wtm_at "ev_lk", by wtm_at "ev_lk", ⟨rfl, fun i v e => by simp at e⟩, rfl, fun r hr => (by cases hr), fun r hr => (by cases hr)⟩ ?_ ?_
    · rintro i σ' H' hlt ⟨x8, x9, x10, x11, L', R, rs, rfl, hp', hL', fr, hl', hR, hlen, hW, hSh⟩
      have hi90 : i < 90 := by omega
      wtm_at "ev_go"
      refine rd_draw (by wtm_at "ev_lk") hL' (by omega) (by omega) (lt2000 (by omega)) (fun e1 Le1 ae1 be1 hLe1 => ?_)
      have num_20 : Num 20 := num_of (by decide)
      have num_s : Num (1 + e1) := num_of (by omega)
      obtain ⟨t1, t2⟩ := times_in (s := 1 + e1) (by omega) (by omega) U0 O2 O3
      wtm_at "ev_go"
      refine rd_draw (by wtm_at "ev_lk") hLe1 (by omega) (by decide) (by decide +kernel) (fun e2 Le2 ae2 be2 hLe2 => ?_)
      wtm_at "ev_go"
      refine rd_draw (by wtm_at "ev_lk") hLe2 (by omega) (by omega) (lt2000 (by omega)) (fun e3 Le3 ae3 be3 hLe3 => ?_)
      wtm_at "ev_go"
      intro q3 hq3
      have nq3 := hq3
      simp only [upd_none] at nq3
      repeat obtain ⟨_, nq3⟩ := nq3
      wtm_at "ev_go"
      refine rd_draw (by wtm_at "ev_lk") hLe3 (by omega) (by decide) (by decide +kernel) (fun e4 Le4 ae4 be4 hLe4 => ?_)
      wtm_at "ev_go"
      obtain ⟨z7, m7, g7⟩ := at_intM (ns := [0, 0, e2, e3]) ae4 be4
      have c7 : 0 ≤ z7 := by
        simp only [List.mem_cons, List.not_mem_nil, or_false] at m7
        omega
      refine rd_ixL (SqL.of (by wtm_at "ev_lk")) g7 ?_
      wtm_at "ev_go"
      refine rd_draw (by wtm_at "ev_lk") hLe4 (by omega) (by decide) (by decide +kernel) (fun e5 Le5 ae5 be5 hLe5 => ?_)
      wtm_at "ev_go"
      refine rd_draw (by wtm_at "ev_lk") hLe5 (by omega) (by omega) (lt2000 (by omega)) (fun e6 Le6 ae6 be6 hLe6 => ?_)
      wtm_at "ev_go"
      intro q4 hq4
      have nq4 := hq4
      simp only [upd_none] at nq4
      repeat obtain ⟨_, nq4⟩ := nq4
      wtm_at "ev_go"
      refine rd_draw (by wtm_at "ev_lk") hLe6 (by omega) (by decide) (by decide +kernel) (fun e7 Le7 ae7 be7 hLe7 => ?_)
      wtm_at "ev_go"
      obtain ⟨z8, m8, g8⟩ := at_intM (ns := [0, 0, e5, e6]) ae7 be7
      have c8 : 0 ≤ z8 := by
        simp only [List.mem_cons, List.not_mem_nil, or_false] at m8
        omega
      refine rd_ixL (SqL.of (by wtm_at "ev_lk")) g8 ?_
      wtm_at "ev_go"
      obtain ⟨f1, f2, f3⟩ := floor_low U0 t1 t2 c7
      obtain ⟨j1, j2, j3⟩ := ceil_high U0 t1 t2 c8
      generalize (if (1 + e1) * o / u - z7 > -1000 then (1 + e1) * o / u - z7 else -1000) = few at f1 f2 f3 ⊢
      generalize (if 0 - (0 - (1 + e1) * o) / u + z8 < 1000 then 0 - (0 - (1 + e1) * o) / u + z8 else 1000) = more at j1 j2 j3 ⊢
      intro q5 hq5
      have nq5 := hq5
      simp only [upd_none] at nq5
      repeat obtain ⟨_, nq5⟩ := nq5
      wtm_at "ev_go"
      have hRl : R.length ≤ 100 := by rw [hR.1]; omega
      refine rd_append (by wtm_at "ev_lk") (by omega) ?_
      wtm_at "ev_go"
      have r1 := (hR.put (o := .lst Le3) hp').mono (Same.new (o := .lst [.int 0, .int 0, .int e2, .int e3]) hq3)
      have r2 := (r1.put (p := p) (o := .lst Le6) (xs := Le3) (by wtm_at "ev_lk")).mono (Same.new (o := .lst [.int 0, .int 0, .int e5, .int e6]) hq4)
      have r3 := (r2.put (p := p) (o := .lst Le7) (xs := Le6) (by wtm_at "ev_lk")).mono (Same.new (o := .tup [.int (1 + e1), .int few, .int more]) hq5)
      have r4 := (r3.add upd_same num_s (num_of (by omega)) (num_of (by omega))).put (p := l) (o := .lst (R ++ [.ref q5])) (xs := R) (by wtm_at "ev_lk")
      refine ⟨_, _, _, _, Le7, R ++ [.ref q5], rs ++ [(1 + e1, few, more)], rfl, by wtm_at "ev_lk", hLe7.le (by omega), fun b o e nb => ?_, by wtm_at "ev_lk", r4, by rw [List.length_append, hlen]; rfl, fun r hr => ?_, fun r hr => ?_⟩
      · have nbl : b ≠ l := ne_of_none e nl
        have hb := fr b o e nb
        wtm_at "ev_lk"
      · rcases List.mem_append.mp hr with hr | hr
        · exact hW r hr
        · rw [List.mem_singleton.mp hr]
          exact ⟨by omega, by omega, f2, f3, j2, j3⟩
      · rcases List.mem_append.mp hr with hr | hr
        · exact hSh r hr
        · rw [List.mem_singleton.mp hr]
          exact ⟨f1, j1⟩
    · rintro σ' H' ⟨x8, x9, x10, x11, L', R, rs, rfl, hp', hL', fr, hl', hR, hlen, hW, hSh⟩
      wtm_at "ev_go"
      intro kd hkd
      have sK : Same H' (upd H' kd (.tup [.int lo, .int hi, .ref l])) := Same.new hkd
      have nkp : kd ≠ p := (ne_of_none hp' hkd).symm
      have hH : H kd = none := by
        cases e : H kd with
        | none => rfl
        | some z =>
          have := fr _ _ e nkp
          rw [hkd] at this
          cases this
      exact k kd l L' R rs lo hi _ (fr.same sK) (sK _ _ hp') (hL'.le (by omega)) upd_same hH (sK _ _ hl') nl (ne_of_none hl' hkd).symm (hR.mono sK) (by omega) clo.1 chi.1 chi.2 hW ⟨o, u, U0, O0, O1, hSh⟩
end
end

section
/-! ### the file bounds -/
theorem RlR.cons {H : Hp} {L : List V} {rs : List R3} {a : Addr} {w l m : Int} (h : RlR H L rs) (ha : H a = some (.tup [.int w, .int l, .int m])) (h1 : Num w) (h2 : Num l) (h3 : Num m) : RlR H (.ref a :: L) ((w, l, m) :: rs) := by
  refine ⟨by rw [List.length_cons, List.length_cons, h.1], fun i v e => ?_⟩
  cases i with
  | zero =>
    cases e
    exact ⟨a, (w, l, m), rfl, rfl, ha, h1, h2, h3⟩
  | succ i => exact h.2 i v e
theorem take_fold {α β : Type} {f : β → α → β} {b : β} {l : List α} {i : Nat} {r : α} (h : l[i]? = some r) : (l.take (i + 1)).foldl f b = f ((l.take i).foldl f b) r := by
  rw [List.take_add_one, h, List.foldl_append]
  rfl
def spIsRule : Sp := fun vs H Q _ => ∃ (a : Addr) (w l m : Int), vs = [.ref a] ∧ H a = some (.tup [.int w, .int l, .int m]) ∧ Q (.bl (decide (1 ≤ w) && decide (l ≤ m))) H
def spLow (K : PySem.W.Frag) : Sp := fun vs H Q _ => ∃ (b : Addr) (L : List V) (r0 : R3) (B : List R3), vs = [.ref b] ∧ SqL K H b L ∧ RlR H L (r0 :: B) ∧ ∀ p : Addr, H p = none → Num (lowM r0 B).1 → Num (lowM r0 B).2 → Q (.ref p) (upd H p (.tup [.int (lowM r0 B).1, .int (lowM r0 B).2]))
def spHigh (K : PySem.W.Frag) : Sp := fun vs H Q _ => ∃ (b : Addr) (L : List V) (r0 : R3) (B : List R3), vs = [.ref b] ∧ SqL K H b L ∧ RlR H L (r0 :: B) ∧ ∀ p : Addr, H p = none → Num (highM r0 B).1 → Num (highM r0 B).2 → Q (.ref p) (upd H p (.tup [.int (highM r0 B).1, .int (highM r0 B).2]))
def spExc (K : PySem.W.Frag) : Sp := fun vs H Q _ => ∃ (b : Addr) (L : List V) (B : List R3) (w l : Int), vs = [.ref b, .int w, .int l] ∧ SqL K H b L ∧ RlR H L B ∧ Num w ∧ Num l ∧
  ∀ (v : V) (H' : Hp), Same H H' → ((v = .non ∧ ∀ s ∈ B, l * s.1 ≤ s.2.2 * w) ∨ ∃ (j : Nat) (s : R3), v = .int j ∧ B[j]? = some s ∧ s.2.2 * w < l * s.1 ∧ ∀ (j' : Nat) s', j' < j → B[j']? = some s' → l * s'.1 ≤ s'.2.2 * w) → Q v H'
/-- what conflict tells -/
def ConfV (B : List R3) (v : V) (H : Hp) : Prop := (v = .non ∧ NoConf B) ∨ ∃ (p : Addr) (i j : Nat), v = .ref p ∧ H p = some (.tup [.int i, .int j]) ∧ FirstConf B i j
theorem ConfV.mono {B : List R3} {v : V} {H H' : Hp} (h : ConfV B v H) (s : Same H H') : ConfV B v H' := by
  rcases h with h | ⟨p, i, j, rfl, e, f⟩
  · exact .inl h
  · exact .inr ⟨p, i, j, rfl, s _ _ e, f⟩
theorem ConfV.put {B : List R3} {v : V} {H : Hp} {p : Addr} {xs : List V} {o : HO} (h : ConfV B v H) (hp : H p = some (.lst xs)) : ConfV B v (upd H p o) := by
  rcases h with h | ⟨q, i, j, rfl, e, f⟩
  · exact .inl h
  · exact .inr ⟨q, i, j, rfl, lk_ne (ne_of e hp (fun z => by cases z)) e, f⟩
def spConf (K : PySem.W.Frag) : Sp := fun vs H Q _ => ∃ (b : Addr) (L : List V) (r0 : R3) (B : List R3), vs = [.ref b] ∧ SqL K H b L ∧ RlR H L (r0 :: B) ∧ Wide1 (r0 :: B) ∧ ∀ (v : V) (H' : Hp), Same H H' → ConfV (r0 :: B) v H' → Q v H'
section
variable {P : Program} {w : World} {K : PySem.W.Frag} {mg : Str → Option Value} {base : Heap}
theorem ok_is_rule {f : Addr} {fd : FuncData} (F : Fun K "is_rule" "is_rule" s_is_rule f fd) : FnOk P w K mg base CX0 1 f fd ["rule"] spIsRule := by
  refine F.ok sc_is_rule (fun vs H Q E h => ?_) (fun cdv A outer s H vs Q E hr h => ?_)
  · obtain ⟨a, w, l, m, rfl, _⟩ := h
    rfl
  · obtain ⟨a, w, l, m, rfl, ha, k⟩ := h
    refine ⟨_, (pss_cons (ps_asg (pv 0) (pg_tup rfl (pgs_cons (pg_name (i := 1) sc_is_rule.nd rfl (Or.inl rfl)) (pgs_cons (pg_name (i := 2) sc_is_rule.nd rfl (Or.inl rfl)) (pgs_cons (pg_name (i := 3) sc_is_rule.nd rfl (Or.inl rfl)) pgs_nil)))))
      (pss_one (ps_ret (pe_and (pe_cmpR op_ge (pv 1) pe_int (nomark _)) (pe_one (pe_cmpR op_le (pv 2) (pv 3) (nomark _))))))), ?_⟩
    wtm_at "ev_go"
    refine rd_ite (fun h1 => ?_) (fun h1 => ?_)
    · rw [decide_eq_true h1, Bool.true_and] at k
      wtm_at "ev_go"
      exact k
    · rw [decide_eq_false h1, Bool.false_and] at k
      exact k
theorem ok_lowest {f : Addr} {fd : FuncData} (F : Fun K "lowest_most" "lowest_most" s_lowest_most f fd) (T : Blt mg) : FnOk P w K mg base CX0 1 f fd ["bounds"] (spLow K) := by
  refine F.ok sc_lowest_most (fun vs H Q E h => ?_) (fun cdv A outer s H vs Q E hr h => ?_)
  · obtain ⟨b, L, r0, B, rfl, _⟩ := h
    rfl
  · obtain ⟨b, L, r0, B, rfl, hb, hR, k⟩ := h
    obtain ⟨x0, L0, rfl⟩ : ∃ x L0, L = x :: L0 := by
      cases L with
      | nil => cases hR.1
      | cons x L0 => exact ⟨x, L0, rfl⟩
    obtain ⟨a0, r0', rfl, e0, h0, nw, nl, nm⟩ := hR.2 0 _ rfl
    cases e0
    refine ⟨_, (pss_cons (ps_asg (pe_ix ix_list (pv 0) pe_int (fun _ _ => rfl)) (pg_tup rfl (pgs_cons (pg_name (i := 1) sc_lowest_most.nd rfl (Or.inl rfl)) (pgs_cons (pg_name (i := 2) sc_lowest_most.nd rfl (Or.inl rfl)) (pgs_cons (pg_name (i := 3) sc_lowest_most.nd rfl (Or.inl rfl)) pgs_nil)))))
      (pss_cons (ps_for PassesOwn.never rfl (pi_list (pv 0)) (pg_tup rfl (pgs_cons (pg_name (i := 4) sc_lowest_most.nd rfl (Or.inl rfl)) (pgs_cons (pg_name (i := 2) sc_lowest_most.nd rfl (Or.inl rfl)) (pgs_cons (pg_name (i := 5) sc_lowest_most.nd rfl (Or.inl rfl)) pgs_nil)))) 
        (pss_one (ps_if (pt_cmpR op_lt (pe_op op_mulW (pv 5) (pv 1)) (pe_op op_mulW (pv 3) (pv 4)) (nomark _)) 
          (pss_one (ps_par (i := 1) (j := 3) (by rfl) sc_lowest_most.nd rfl rfl (by decide) rfl rfl (pa_cons (pv 4) (pa_cons (pv 5) pa_nil)) (by rfl))) pss_nil)))
      (pss_one (ps_ret (pe_tup (pa_cons (pv 3) (pa_cons (pv 1) pa_nil))))))), ?_⟩
    wtm_at "ev_go"
    refine rd_ixL hb (atI_nat (j := 0) rfl) ?_
    wtm_at "ev_go"
    refine rd_forL (fun i σ' H' => ∃ (x2 x4 x5 : Option V) (bw bm : Int), σ' = [some (.ref b), some (.int bw), x2, some (.int bm), x4, x5] ∧ H' = H ∧ Num bw ∧ Num bm ∧ (bm, bw) = ((r0 :: B).take i).foldl lowStep (r0.2.2, r0.1)) ⟨_, _, _, _, _, rfl, rfl, nw, nm, rfl⟩ (fun i σ' H' _ h => by obtain ⟨_, _, _, _, _, _, rfl, _⟩ := h; exact hb) ?_ ?_
    · rintro i x σ' H' hx ⟨x2, x4, x5, bw, bm, rfl, rfl, nbw, nbm, st⟩
      obtain ⟨a, r, rfl, er, ha, nw', nl', nm'⟩ := hR.2 i x hx
      have st' := take_fold (f := lowStep) (b := (r0.2.2, r0.1)) er
      rw [← st] at st'
      wtm_at "ev_go"
      refine rd_ite (fun c => ?_) (fun c => ?_)
      · wtm_at "ev_go"
        refine ⟨_, _, _, _, _, rfl, trivial, nw', nm', ?_⟩
        rw [st']
        unfold lowStep
        rw [if_pos c]
      · wtm_at "ev_go"
        refine ⟨_, _, _, _, _, rfl, trivial, nbw, nbm, ?_⟩
        rw [st']
        unfold lowStep
        rw [if_neg c]
    · rintro σ' H' ⟨x2, x4, x5, bw, bm, rfl, rfl, nbw, nbm, st⟩
      rw [hR.1, List.take_length] at st
      have e : lowM r0 B = (bm, bw) := st.symm
      rw [e] at k
      wtm_at "ev_go"
      exact fun p hp => k p hp nbm nbw
theorem ok_exceeded {f : Addr} {fd : FuncData} (F : Fun K "first_exceeded" "first_exceeded" s_first_exceeded f fd) (T : Blt mg) : FnOk P w K mg base CX0 1 f fd ["bounds", "width", "least"] (spExc K) := by
  refine F.ok sc_first_exceeded (fun vs H Q E h => ?_) (fun cdv A outer s H vs Q E hr h => ?_)
  · obtain ⟨b, L, B, w, l, rfl, _⟩ := h
    rfl
  · obtain ⟨b, L, B, w, l, rfl, hb, hR, nw, nl, k⟩ := h
    refine ⟨_, (pss_cons (ps_for PassesOwn.never rfl (pi_enum (by rfl) T.n_enumerate (pa_cons (pv 0) pa_nil)) (pg_tup rfl (pgs_cons (pg_name (i := 3) sc_first_exceeded.nd rfl (Or.inl rfl)) (pgs_cons (pg_tup rfl (pgs_cons (pg_name (i := 4) sc_first_exceeded.nd rfl (Or.inl rfl)) (pgs_cons (pg_name (i := 5) sc_first_exceeded.nd rfl (Or.inl rfl)) (pgs_cons (pg_name (i := 6) sc_first_exceeded.nd rfl (Or.inl rfl)) pgs_nil)))) pgs_nil))) 
        (pss_one (ps_if (pt_cmpR op_gt (pe_op op_mulW (pv 2) (pv 4)) (pe_op op_mulW (pv 6) (pv 1)) (nomark _)) 
          (pss_one (ps_ret (pv 3))) pss_nil)))
      (pss_one (ps_ret pe_non))), ?_⟩
    wtm_at "ev_go"
    refine rd_forE (fun i σ' H' => ∃ (x3 x4 x5 x6 : Option V), σ' = [some (.ref b), some (.int w), some (.int l), x3, x4, x5, x6] ∧ Same H H' ∧ ∀ (j : Nat) s, j < i → B[j]? = some s → l * s.1 ≤ s.2.2 * w) ⟨_, _, _, _, rfl, Same.refl _, fun j _ hj => absurd hj (Nat.not_lt_zero _)⟩ (fun i σ' H' _ h => by obtain ⟨_, _, _, _, _, z, _⟩ := h; exact sqL_same hb z) ?_ ?_
    · rintro i x σ' H' p hx ⟨x3, x4, x5, x6, rfl, sm, al⟩ hp
      have sm2 := sm.trans (Same.new (o := .tup [.int i, x]) hp)
      obtain ⟨a, r, rfl, er, ha, nw', nl', nm'⟩ := (hR.mono sm2).2 i x hx
      wtm_at "ev_go"
      refine rd_ite (fun c => ?_) (fun c => ?_)
      · wtm_at "ev_go"
        exact k _ _ sm2 (.inr ⟨i, r, rfl, er, c, al⟩)
      · wtm_at "ev_go"
        refine ⟨_, _, _, _, rfl, sm2, fun j s hj e => ?_⟩
        rcases Nat.lt_succ_iff_lt_or_eq.mp hj with h | rfl
        · exact al j s h e
        · rw [er] at e
          cases e
          omega
    · rintro σ' H' ⟨x3, x4, x5, x6, rfl, sm, al⟩
      wtm_at "ev_go"
      refine k _ _ sm (.inl ⟨rfl, fun s hs => ?_⟩)
      obtain ⟨j, hj⟩ := List.getElem?_of_mem hs
      exact al j s (by rw [hR.1]; exact (List.getElem?_eq_some_iff.mp hj).1) hj
theorem ok_conflict {f : Addr} {fd : FuncData} (F : Fun K "first_conflict" "first_conflict" s_first_conflict f fd) (T : Blt mg) (GL : CalN P w K mg base 1 "lowest_most" (spLow K)) (GE : CalN P w K mg base 1 "first_exceeded" (spExc K)) : FnOk P w K mg base CX0 2 f fd ["bounds"] (spConf K) := by
  refine F.ok sc_first_conflict (fun vs H Q E h => ?_) (fun cdv A outer s H vs Q E hr h => ?_)
  · obtain ⟨b, L, r0, B, rfl, _⟩ := h
    rfl
  · obtain ⟨b, L, r0, B, rfl, hb, hR, hW, k⟩ := h
    have isl := low_is r0 B hW
    refine ⟨_, (pss_cons (ps_asg (pe_cN GL hr (by decide) (by rfl) (pa_cons (pv 0) pa_nil)) (pg_tup rfl (pgs_cons (pg_name (i := 1) sc_first_conflict.nd rfl (Or.inl rfl)) (pgs_cons (pg_name (i := 2) sc_first_conflict.nd rfl (Or.inl rfl)) pgs_nil))))
      (pss_cons (ps_for PassesOwn.never rfl (pi_enum (by rfl) T.n_enumerate (pa_cons (pv 0) pa_nil)) (pg_tup rfl (pgs_cons (pg_name (i := 3) sc_first_conflict.nd rfl (Or.inl rfl)) (pgs_cons (pg_tup rfl (pgs_cons (pg_name (i := 4) sc_first_conflict.nd rfl (Or.inl rfl)) (pgs_cons (pg_name (i := 5) sc_first_conflict.nd rfl (Or.inl rfl)) (pgs_cons (pg_name (i := 6) sc_first_conflict.nd rfl (Or.inl rfl)) pgs_nil)))) pgs_nil))) 
        (pss_one (ps_if (pt_cmpR op_gt (pe_op op_mulW (pv 5) (pv 2)) (pe_op op_mulW (pv 1) (pv 4)) (nomark _)) 
          (pss_one (ps_ret (pe_tup (pa_cons (pv 3) (pa_cons (pe_cN GE hr (by decide) (by rfl) (pa_cons (pv 0) (pa_cons (pv 4) (pa_cons (pv 5) pa_nil)))) pa_nil))))) pss_nil)))
      (pss_one (ps_ret pe_non)))), ?_⟩
    wtm_at "ev_go"
    refine ⟨b, L, r0, B, rfl, hb, hR, fun p hp nx ny => ?_⟩
    generalize lowM r0 B = lm at isl nx ny ⊢
    wtm_at "ev_go"
    have s0 : Same H (upd H p (.tup [.int lm.1, .int lm.2])) := Same.new hp
    refine rd_enumL (sqL_same hb s0) ?_
    refine rd_forE (fun i σ' H' => ∃ (x3 x4 x5 x6 : Option V), σ' = [some (.ref b), some (.int lm.1), some (.int lm.2), x3, x4, x5, x6] ∧ Same H H' ∧ ∀ (j : Nat) r, j < i → (r0 :: B)[j]? = some r → r.2.1 * lm.2 ≤ lm.1 * r.1) ⟨_, _, _, _, rfl, s0, fun j _ hj => absurd hj (Nat.not_lt_zero _)⟩ (fun i σ' H' _ h => by obtain ⟨_, _, _, _, _, z, _⟩ := h; exact sqL_same hb z) ?_ ?_
    · rintro i v σ' H' p hx ⟨x3, x4, x5, x6, rfl, sm, al⟩ hp
      have sm2 := sm.trans (Same.new (o := .tup [.int i, v]) hp)
      obtain ⟨a, r, rfl, er, ha, nw', nl', nm'⟩ := (hR.mono sm2).2 i v hx
      wtm_at "ev_go"
      refine rd_ite (fun c => ?_) (fun c => ?_)
      · wtm_at "ev_go"
        refine ⟨b, L, r0 :: B, r.1, r.2.1, rfl, sqL_same hb sm2, hR.mono sm2, nw', nl', fun v H3 s3 hv => ?_⟩
        wtm_at "ev_go"
        intro q hq
        rcases hv with ⟨_, hn⟩ | ⟨j, s, rfl, es, cs, als⟩
        · obtain ⟨s, hs, z⟩ := low_stop isl c
          have := hn s hs
          omega
        · refine k _ _ ((sm2.trans s3).trans (Same.new hq)) (.inr ⟨q, i, j, rfl, upd_same, r, s, er, es, cs, fun i' r' hi e => ?_, als⟩)
          exact low_pass hW isl (hW r' (List.mem_of_getElem? e)) (al i' r' hi e)
      · wtm_at "ev_go"
        refine ⟨_, _, _, _, rfl, sm2, fun j s hj e => ?_⟩
        rcases Nat.lt_succ_iff_lt_or_eq.mp hj with h | rfl
        · exact al j s h e
        · rw [er] at e
          cases e
          omega
    · rintro σ' H' ⟨x3, x4, x5, x6, rfl, sm, al⟩
      wtm_at "ev_go"
      refine k _ _ sm (.inl ⟨rfl, fun r hr => ?_⟩)
      obtain ⟨j, hj⟩ := List.getElem?_of_mem hr
      exact low_pass hW isl (hW r hr) (al j r (by rw [hR.1]; exact (List.getElem?_eq_some_iff.mp hj).1) hj)
theorem ok_highest {f : Addr} {fd : FuncData} (F : Fun K "highest_least" "highest_least" s_highest_least f fd) (T : Blt mg) : FnOk P w K mg base CX0 1 f fd ["bounds"] (spHigh K) := by
  refine F.ok sc_highest_least (fun vs H Q E h => ?_) (fun cdv A outer s H vs Q E hr h => ?_)
  · obtain ⟨b, L, r0, B, rfl, _⟩ := h
    rfl
  · obtain ⟨b, L, r0, B, rfl, hb, hR, k⟩ := h
    obtain ⟨x0, L0, rfl⟩ : ∃ x L0, L = x :: L0 := by
      cases L with
      | nil => cases hR.1
      | cons x L0 => exact ⟨x, L0, rfl⟩
    obtain ⟨a0, r0', rfl, e0, h0, nw, nl, nm⟩ := hR.2 0 _ rfl
    cases e0
    refine ⟨_, (pss_cons (ps_asg (pe_ix ix_list (pv 0) pe_int (fun _ _ => rfl)) (pg_tup rfl (pgs_cons (pg_name (i := 1) sc_highest_least.nd rfl (Or.inl rfl)) (pgs_cons (pg_name (i := 2) sc_highest_least.nd rfl (Or.inl rfl)) (pgs_cons (pg_name (i := 3) sc_highest_least.nd rfl (Or.inl rfl)) pgs_nil)))))
      (pss_cons (ps_for PassesOwn.never rfl (pi_list (pv 0)) (pg_tup rfl (pgs_cons (pg_name (i := 4) sc_highest_least.nd rfl (Or.inl rfl)) (pgs_cons (pg_name (i := 5) sc_highest_least.nd rfl (Or.inl rfl)) (pgs_cons (pg_name (i := 3) sc_highest_least.nd rfl (Or.inl rfl)) pgs_nil)))) 
        (pss_one (ps_if (pt_cmpR op_gt (pe_op op_mulW (pv 5) (pv 1)) (pe_op op_mulW (pv 2) (pv 4)) (nomark _)) 
          (pss_one (ps_par (i := 1) (j := 2) (by rfl) sc_highest_least.nd rfl rfl (by decide) rfl rfl (pa_cons (pv 4) (pa_cons (pv 5) pa_nil)) (by rfl))) pss_nil)))
      (pss_one (ps_ret (pe_tup (pa_cons (pv 2) (pa_cons (pv 1) pa_nil))))))), ?_⟩
    wtm_at "ev_go"
    refine rd_ixL hb (atI_nat (j := 0) rfl) ?_
    wtm_at "ev_go"
    refine rd_forL (fun i σ' H' => ∃ (x3 x4 x5 : Option V) (bw bl : Int), σ' = [some (.ref b), some (.int bw), some (.int bl), x3, x4, x5] ∧ H' = H ∧ Num bw ∧ Num bl ∧ (bl, bw) = ((r0 :: B).take i).foldl highStep (r0.2.1, r0.1)) ⟨_, _, _, _, _, rfl, rfl, nw, nl, rfl⟩ (fun i σ' H' _ h => by obtain ⟨_, _, _, _, _, _, rfl, _⟩ := h; exact hb) ?_ ?_
    · rintro i x σ' H' hx ⟨x3, x4, x5, bw, bl, rfl, rfl, nbw, nbl, st⟩
      obtain ⟨a, r, rfl, er, ha, nw', nl', nm'⟩ := hR.2 i x hx
      have st' := take_fold (f := highStep) (b := (r0.2.1, r0.1)) er
      rw [← st] at st'
      wtm_at "ev_go"
      refine rd_ite (fun c => ?_) (fun c => ?_)
      · wtm_at "ev_go"
        refine ⟨_, _, _, _, _, rfl, trivial, nw', nl', ?_⟩
        rw [st']
        unfold highStep
        rw [if_pos c]
      · wtm_at "ev_go"
        refine ⟨_, _, _, _, _, rfl, trivial, nbw, nbl, ?_⟩
        rw [st']
        unfold highStep
        rw [if_neg c]
    · rintro σ' H' ⟨x3, x4, x5, bw, bl, rfl, rfl, nbw, nbl, st⟩
      rw [hR.1, List.take_length] at st
      have e : highM r0 B = (bl, bw) := st.symm
      rw [e] at k
      wtm_at "ev_go"
      exact fun p hp => k p hp nbl nbw
end
/-! ### the file books -/
structure TxB (K : PySem.W.Frag) (mg : Str → Option Value) (fI cD cR cB fB fN : Addr) : Prop where
  b : Blt mg
  xD : ExT K mg "InvalidDays" cD fI
  xR : ExT K mg "InvalidRule" cR fI
  cls : Cls K cB
  n1 : NoAttr K cB "_low"
  n2 : NoAttr K cB "_high"
  n3 : NoAttr K cB "_rules"
  n4 : NoAttr K cB "_conflict"
  n5 : NoAttr K cB "_sums"
  n6 : NoAttr K cB "_spots"
  mB : Meth K cB "bounds" fB
  mB2 : Mk K cB fN
  gB : mg "Book" = some (.ref cB)

section
variable {K : PySem.W.Frag} {mg : Str → Option Value} {σ : L2.St} {H : Hp} {a C dx fI : Addr} {fs : List (Str × V)} {f x : Str} {v : V} {te tv : TE} {D : Ends}
theorem rd_fld {Q : VK} (h : te σ H fun x H1 => ∃ a C dx fs v, x = .ref a ∧ H1 a = some (.ins C dx fs) ∧ Cls K C ∧ NoAttr K C f ∧ fs.lookup f = some v ∧ Q v H1) : tFld K te f σ H Q := h
theorem rd_fldA {Q : V → Prop} (h : H a = some (.ins C dx fs)) (c : Cls K C) (n : NoAttr K C f) (l : fs.lookup f = some v) (q : Q v) : ∃ a' C dx fs v, V.ref a = .ref a' ∧ H a' = some (.ins C dx fs) ∧ Cls K C ∧ NoAttr K C f ∧ fs.lookup f = some v ∧ Q v := ⟨a, C, dx, fs, v, rfl, h, c, n, l, q⟩
theorem rd_sfld (h : tv σ H fun y H1 => te σ H1 fun x H2 => ∃ a C dx fs, x = .ref a ∧ H2 a = some (.ins C dx fs) ∧ Cls K C ∧ NoAttr K C f ∧ fs.length < 1000 ∧ D.nx σ (upd H2 a (.ins C dx (putF f y fs)))) : sFld K te tv f D σ H := h
theorem rd_sfldA {A : Addr → Addr → Addr → List (Str × V) → Prop} (h : H a = some (.ins C dx fs)) (c : Cls K C) (n : NoAttr K C f) (l : fs.length < 1000) (q : A a C dx fs) : ∃ a' C dx fs, V.ref a = .ref a' ∧ H a' = some (.ins C dx fs) ∧ Cls K C ∧ NoAttr K C f ∧ fs.length < 1000 ∧ A a' C dx fs := ⟨a, C, dx, fs, rfl, h, c, n, l, q⟩
theorem lk_put {g : Str} (h : ¬ g = f) : (putF f v fs).lookup g = fs.lookup g := by rw [lookup_putF, if_neg h]
theorem lk_put0 : (putF f v fs).lookup f = some v := by rw [lookup_putF, if_pos rfl]
theorem len_put : ∀ fs : List (Str × V), (putF f v fs).length ≤ fs.length + 1
  | [] => Nat.le_refl _
  | (g, x) :: r => by
    show (if g = f then (g, v) :: r else (g, x) :: putF f v r).length ≤ _
    by_cases e : g = f
    · rw [if_pos e, List.length_cons, List.length_cons]
      omega
    · rw [if_neg e, List.length_cons, List.length_cons]
      have := len_put r
      omega
theorem len_put' {n : Nat} (h : fs.length ≤ n) : (putF f v fs).length ≤ n + 1 := Nat.le_trans (len_put fs) (by omega)
theorem len_nil : ([] : List (Str × V)).length ≤ 0 := Nat.le_refl _
/-- raise C(v), C an own error: what stands behind it -/
theorem rd_mko {Q : XK} (T : ExT K mg x C fI) (q : ∀ d H', Same H H' → H' d = some (.xd [(("value" : Str), v)]) → Q (.ref C) (some d) H') :
    [v].length ≤ 1000 ∧ ∀ a, H a = none → spInit K (.ref a :: ([v] ++ [])) (upd H a (exo a C none)) (fun u H2 => u = .non ∧ ∃ (d : Addr) (fs : List (Str × V)), H2 a = some (exo a C (some d)) ∧ H2 d = some (exd d fs) ∧ H d = none ∧ Q (.ref C) (some d) (upd (del H2 a) d (.xd fs))) (fun _ _ _ => False) := by
  refine ⟨Nat.le_of_ble_eq_true rfl, fun a ha => ⟨a, C, v, rfl, upd_same, T.c, T.n, fun d hd ne => ⟨rfl, d, _, upd_same, by rw [upd_ne ne]; exact upd_same, ?_, q d _ (fun b o e => ?_) upd_same⟩⟩⟩
  · rw [upd_ne ne] at hd
    exact hd
  · have h1 : b ≠ a := ne_of_none e ha
    have h2 : b ≠ d := ne_of_none (lk_new e ha) hd
    rw [upd_ne h2, del_ne h1, upd_ne h1, upd_ne h2, upd_ne h1]
    exact e
theorem rd_raise {t : L2.St → Hp → XK → Prop} {W : WX} (h : t σ H fun cls d H' => W cls d σ H') : (fun (_ : Ends) σ H => t σ H fun cls d H' => W cls d σ H') D σ H := h
theorem rd_tmko {sp : Sp} {dvs : List V} {ta : TA} {Q : XK} (h : ta σ H fun vs H1 => vs.length ≤ 1000 ∧ ∀ a, H1 a = none → sp (.ref a :: (vs ++ dvs)) (upd H1 a (exo a C none))
  (fun v H2 => v = .non ∧ ∃ (d : Addr) (fs : List (Str × V)), H2 a = some (exo a C (some d)) ∧ H2 d = some (exd d fs) ∧ H1 d = none ∧ Q (.ref C) (some d) (upd (del H2 a) d (.xd fs))) (fun _ _ _ => False)) : tMkO C sp dvs ta σ H Q := h
theorem rd_meth0 {m : Str} {sp : Sp} {dvs : List V} {E : XK} {t : TA} {Q : VK} (h : te σ H fun x H1 => ∃ a dx fs, x = .ref a ∧ H1 a = some (.ins C dx fs) ∧ fs.lookup m = none ∧ t σ H1 fun vs H2 => sp (x :: (vs ++ dvs)) H2 Q E) : tMeth C m sp dvs E te t σ H Q := h
theorem rd_make {sp : Sp} {dvs : List V} {E : XK} {t : TA} {Q : VK} (h : t σ H fun vs H1 => ∀ x dx, H1 x = none → H1 dx = none → dx ≠ x → sp (.ref x :: (vs ++ dvs)) (upd (upd H1 dx (.own x)) x (.ins C dx [])) (fun v H2 => v = .non ∧ Q (.ref x) H2) E) : tMake C sp dvs E t σ H Q := h
theorem rd_prop {sp : Sp} {dvs : List V} {E : XK} {ta : TE} {Q : VK} (h : ta σ H fun x H1 => ∃ a dx fs, x = .ref a ∧ H1 a = some (.ins C dx fs) ∧ sp (.ref a :: dvs) H1 Q E) : tProp C sp dvs E ta σ H Q := h
theorem rd_cut {t u : TS} {D : Ends} (M : L2.St → Hp → Prop) (h1 : t { D with nx := M } σ H) (h2 : ∀ σ' H', M σ' H' → u D σ' H') : C8.tCut t u D σ H := ⟨M, h1, h2⟩
end
local macro_rules | `(tactic| wtm_at "ev_step") => `(tactic| with_reducible first | refine rd_fld ?_ | refine rd_sfld ?_ | refine rd_tmko ?_ | refine rd_meth0 ?_ | refine rd_make ?_ | refine rd_prop ?_ | refine rd_callK0 ?_)

/-- the first wrong rule -/
def Bad (rs : List R3) (i : Nat) : Prop := ∃ r, rs[i]? = some r ∧ okR r = false ∧ ∀ (j : Nat) r', j < i → rs[j]? = some r' → okR r' = true
def Fine (rs : List R3) : Prop := ∀ (j : Nat) r', rs[j]? = some r' → okR r' = true
theorem Fine.wide {rs : List R3} {lo hi : Int} (h : Fine rs) : Wide1 ((1, lo, hi) :: rs) := fun r hr => by
  rcases List.mem_cons.mp hr with rfl | hr
  · exact Int.le_refl _
  · obtain ⟨j, hj⟩ := List.getElem?_of_mem hr
    have := h j r hj
    unfold okR at this
    exact of_decide_eq_true (Bool.and_eq_true_iff.mp this).1
def spBnd (C : Addr) : Sp := fun vs H Q _ => ∃ (a dx r : Addr) (fs : List (Str × V)) (lo hi : Int) (L : List V) (rs : List R3), vs = [.ref a] ∧ H a = some (.ins C dx fs) ∧ fs.lookup ("_low" : Str) = some (.int lo) ∧ fs.lookup ("_high" : Str) = some (.int hi) ∧ fs.lookup ("_rules" : Str) = some (.ref r) ∧ H r = some (.lst L) ∧ RlR H L rs ∧ L.length ≤ 1000 ∧ Num lo ∧ Num hi ∧
  ∀ (p : Addr) (L' : List V) (H' : Hp), Same H H' → H' p = some (.lst L') → RlR H' L' ((1, lo, hi) :: rs) → Q (.ref p) H'
def bookField (m : Str) : Bool := m == ("_low" : Str) || m == ("_high" : Str) || m == ("_rules" : Str) || m == ("_conflict" : Str) || m == ("_sums" : Str) || m == ("_spots" : Str)
/-- at a: a book with these numbers, its rules those of L in a list of its own -/
def BookAt (C : Addr) (H : Hp) (a : Addr) (lo hi : Int) (L : List V) (rs : List R3) : Prop := ∃ (dx l : Addr) (fs : List (Str × V)) (v : V), H a = some (.ins C dx fs) ∧ H l = some (.lst L) ∧ fs.lookup ("_low" : Str) = some (.int lo) ∧ fs.lookup ("_high" : Str) = some (.int hi) ∧ fs.lookup ("_rules" : Str) = some (.ref l) ∧
  fs.lookup ("_conflict" : Str) = some v ∧ ConfV ((1, lo, hi) :: rs) v H ∧ RlR H L rs ∧ ∀ m : Str, bookField m = false → fs.lookup m = none
/-- .. with its own list told, no sums yet -/
def BookN (C : Addr) (H : Hp) (a l : Addr) (lo hi : Int) (L : List V) (rs : List R3) : Prop := ∃ (dx : Addr) (fs : List (Str × V)) (v : V), H a = some (.ins C dx fs) ∧ H l = some (.lst L) ∧ fs.lookup ("_low" : Str) = some (.int lo) ∧ fs.lookup ("_high" : Str) = some (.int hi) ∧ fs.lookup ("_rules" : Str) = some (.ref l) ∧
  fs.lookup ("_conflict" : Str) = some v ∧ ConfV ((1, lo, hi) :: rs) v H ∧ RlR H L rs ∧ (∀ m : Str, bookField m = false → fs.lookup m = none) ∧ fs.lookup ("_sums" : Str) = some .non ∧ fs.length < 900
theorem BookAt.mono {C a : Addr} {H H' : Hp} {lo hi : Int} {L : List V} {rs : List R3} (h : BookAt C H a lo hi L rs) (s : Same H H') : BookAt C H' a lo hi L rs := by
  obtain ⟨dx, l, fs, v, h1, h2, q1, q2, q3, q4, q5, q6, r⟩ := h
  exact ⟨dx, l, fs, v, s _ _ h1, s _ _ h2, q1, q2, q3, q4, q5.mono s, q6.mono s, r⟩
theorem BookAt.put {C a p : Addr} {H : Hp} {lo hi n : Int} {L Lp : List V} {rs : List R3} {o : HO} (h : BookAt C H a lo hi L rs) (hp : H p = some (.lst Lp)) (hL : PoolL Lp n) : BookAt C (upd H p o) a lo hi L rs := by
  obtain ⟨dx, l, fs, v, h1, h2, q1, q2, q3, q4, q5, q6, r⟩ := h
  refine ⟨dx, l, fs, v, lk_ne (ne_of h1 hp (fun z => by cases z)) h1, lk_ne (fun e => ?_) h2, q1, q2, q3, q4, q5.put hp, q6.put hp, r⟩
  subst e
  rw [h2] at hp
  cases hp
  obtain ⟨z, m, c, rfl, _⟩ := hL
  obtain ⟨b, r', e, _⟩ := q6.2 0 _ rfl
  cases e
def spBook (C cD cR : Addr) : Sp := fun vs H Q E => ∃ (a dx r : Addr) (lo hi : Int) (L : List V) (rs : List R3), vs = [.ref a, .int lo, .int hi, .ref r] ∧ H a = some (.ins C dx []) ∧ H r = some (.lst L) ∧ RlR H L rs ∧ L.length ≤ 1000 ∧ Num lo ∧ Num hi ∧
  (hi < lo → ∀ (d t : Addr) (H' : Hp), Same H H' → H' d = some (.xd [(("value" : Str), .ref t)]) → H' t = some (.tup [.int lo, .int hi]) → E (.ref cD) (some d) H') ∧
  (lo ≤ hi → ∀ (i : Nat) (d : Addr) (H' : Hp), Bad rs i → Same H H' → H' d = some (.xd [(("value" : Str), .int i)]) → E (.ref cR) (some d) H') ∧
  (lo ≤ hi → Fine rs → ∀ H' l, Fr a H H' → H l = none → BookN C H' a l lo hi L rs → Q .non H')
theorem bookF_none {a b c d e f : V} {m : Str} (h : bookField m = false) : (putF "_spots" f (putF "_sums" e (putF "_conflict" d (putF "_rules" c (putF "_high" b (putF "_low" a [])))))).lookup m = none := by
  unfold bookField at h
  simp only [Bool.or_eq_false_iff, beq_eq_false_iff_ne] at h
  obtain ⟨⟨⟨⟨⟨h1, h2⟩, h3⟩, h4⟩, h5⟩, h6⟩ := h
  rw [lk_put h6, lk_put h5, lk_put h4, lk_put h3, lk_put h2, lk_put h1]
  rfl
section
variable {P : Program} {w : World} {K : PySem.W.Frag} {mg : Str → Option Value} {base : Heap} {fI cD cR cB fB fN : Addr}
theorem ok_bounds {f : Addr} {fd : FuncData} (F : Fun K "bounds" "Book.bounds" s_Book_bounds f fd) (T : TxB K mg fI cD cR cB fB fN) : FnOk P w K mg base CX0 1 f fd ["self"] (spBnd cB) := by
  refine F.ok sc_Book_bounds (fun vs H Q E h => ?_) (fun cdv A outer s H vs Q E hr h => ?_)
  · obtain ⟨a, dx, r, fs, lo, hi, L, rs, rfl, _⟩ := h
    rfl
  · obtain ⟨a, dx, r, fs, lo, hi, L, rs, rfl, ha, l1, l2, l3, hL, hR, hle, nlo, nhi, k⟩ := h
    refine ⟨_, (pss_one (ps_ret (pe_op op_cat (pe_lst (pa_cons (pe_tup (pa_cons pe_int (pa_cons (pe_fld (pv 0) rfl) (pa_cons (pe_fld (pv 0) rfl) pa_nil)))) pa_nil)) (pe_fld (pv 0) rfl)))), ?_⟩
    wtm_at "ev_go"
    refine rd_fldA ha T.cls T.n1 l1 ?_
    wtm_at "ev_go"
    refine rd_fldA ha T.cls T.n2 l2 ?_
    wtm_at "ev_go"
    intro t ht
    wtm_at "ev_go"
    intro q hq
    have s1 : Same H (upd H t (.tup [.int 1, .int lo, .int hi])) := Same.new ht
    have s2 := s1.trans (Same.new (o := .lst [.ref t]) hq)
    have nt : t ≠ q := (ne_of_none upd_same hq)
    wtm_at "ev_go"
    refine rd_fldA (s2 _ _ ha) T.cls T.n3 l3 ?_
    wtm_at "ev_go"
    refine rd_cat upd_same (s2 _ _ hL) (by rw [List.length_cons, List.length_nil]; omega) (fun p hp => ?_)
    have s3 := s2.trans (Same.new (o := .lst ([.ref t] ++ L)) hp)
    exact k p _ _ s3 upd_same ((hR.mono s3).cons (lk_ne (ne_of_none (lk_ne nt upd_same) hp) (lk_ne nt upd_same)) (by decide : (1 : Nat) < 2 ^ 1000) nlo nhi)
theorem ok_binit {f : Addr} {fd fdI fdB : FuncData} (F : Fun K "__init__" "Book.__init__" s_Book_init f fd) (T : TxB K mg fI cD cR cB fB fN) (GI : FnOk P w K mg base CX0 1 fI fdI ["self", "value"] (spInit K)) (bI : Binds K fdI ["self", "value"] [])
    (GR : CalN P w K mg base 1 "is_rule" spIsRule) (GC : CalN P w K mg base 2 "first_conflict" (spConf K)) (GB : FnOk P w K mg base CX0 1 fB fdB ["self"] (spBnd cB)) (bB : Binds K fdB ["self"] []) : FnOk P w K mg base (L2.CX P w) 4 f fd ["self", "low", "high", "rules"] (spBook cB cD cR) := by
  refine F.okX sc_Book_init (fun vs H Q E h => ?_) (fun cdv A outer s H vs Q E hr h => ?_)
  · obtain ⟨a, dx, r, lo, hi, L, rs, rfl, _⟩ := h
    rfl
  · obtain ⟨a, dx, r, lo, hi, L, rs, rfl, ha, hr0, hR, hle, nlo, nhi, k1, k2, k3⟩ := h
    have hr1 : Room 2 _ := hr.mono (by decide)
    refine ⟨_, (pss_cons (ps_if (pt_cmpR op_gt (pv 1) (pv 2) (nomark _)) 
        (pss_one (ps_raise rfl (takes_of rfl rfl rfl rfl) (pmk_oex T.xD.c T.xD.i T.xD.t GI (hr.mono (by decide)) bI .nil pass0 (by rfl) T.xD.g (pa_cons (pe_tup (pa_cons (pv 1) (pa_cons (pv 2) pa_nil))) pa_nil)))) pss_nil)
      (pss_cons (ps_for (passes_of rfl) rfl (pi_enum (by rfl) T.b.n_enumerate (pa_cons (pv 3) pa_nil)) (pg_tup rfl (pgs_cons (pg_name (i := 4) sc_Book_init.nd rfl (Or.inl rfl)) (pgs_cons (pg_name (i := 5) sc_Book_init.nd rfl (Or.inl rfl)) pgs_nil))) 
        (pss_one (ps_if (pt_not (pt_val (pe_cN GR hr1 (by decide) (by rfl) (pa_cons (pv 5) pa_nil)))) 
          (pss_one (ps_raise rfl (takes_of rfl rfl rfl rfl) (pmk_oex T.xR.c T.xR.i T.xR.t GI (hr.mono (by decide)) bI .nil pass0 (by rfl) T.xR.g (pa_cons (pv 4) pa_nil)))) pss_nil)))
      (pss_cons (ps_fld (pv 0) (pv 1) rfl)
      (pss_cons (ps_fld (pv 0) (pv 2) rfl)
      (pss_cons (ps_fld (pv 0) (pe_callTy call_list_of (by rfl) T.b.n_list boot_list (pa_cons (pv 3) pa_nil)) rfl)
      (pss_cons (ps_fld (pv 0) (pe_cN GC hr1 (by decide) (by rfl) (pa_cons (pe_meth0 (pv 0) T.cls T.mB GB (hr.mono (by decide)) bB .nil pass0) pa_nil)) rfl)
      (pss_cons (ps_fld (pv 0) pe_non rfl)
      (pss_one (ps_fld (pv 0) pe_non rfl))))))))), ?_⟩
    wtm_at "ev_go"
    refine rd_ite (fun hlt => ?_) (fun hlt => ?_)
    · wtm_at "ev_go"
      intro t ht
      wtm_at "ev_go"
      exact rd_mko T.xD (fun d H' s e => k1 hlt d t H' ((Same.new ht).trans s) e (s _ _ upd_same))
    · wtm_at "ev_go"
      refine rd_forE (fun i σ' H' => ∃ (x4 x5 : Option V), σ' = [some (.ref a), some (.int lo), some (.int hi), some (.ref r), x4, x5] ∧ Same H H' ∧ ∀ (j : Nat) r', j < i → rs[j]? = some r' → okR r' = true) ⟨_, _, rfl, Same.refl _, fun j _ hj => absurd hj (Nat.not_lt_zero _)⟩
        (fun i σ' H' _ h => by obtain ⟨_, _, _, z, _⟩ := h; exact SqL.of (z _ _ hr0)) ?_ ?_
      · rintro i v σ' H' p hx ⟨x4, x5, rfl, sm, al⟩ hp
        have sm2 := sm.trans (Same.new (o := .tup [.int i, v]) hp)
        obtain ⟨b, q, rfl, hq, hb, nq⟩ := (hR.mono sm2).2 i v hx
        wtm_at "ev_go"
        refine ⟨b, q.1, q.2.1, q.2.2, rfl, hb, ?_⟩
        have e1 : (decide (1 ≤ q.1) && decide (q.2.1 ≤ q.2.2)) = okR q := rfl
        rw [e1]
        wtm_at "ev_go"
        cases ho : okR q with
        | true =>
          rw [if_neg (by decide : ¬ (!true) = true)]
          wtm_at "ev_go"
          refine ⟨_, _, rfl, sm2, fun j r' hj e => ?_⟩
          rcases Nat.lt_succ_iff_lt_or_eq.mp hj with h | rfl
          · exact al j r' h e
          · rw [hq] at e
            cases e
            exact ho
        | false =>
          rw [if_pos (by decide : (!false) = true)]
          wtm_at "ev_go"
          exact rd_mko T.xR (fun d H'' s e => k2 (by omega) i d H'' ⟨q, hq, ho, al⟩ (sm2.trans s) e)
      · rintro σ' H' ⟨x4, x5, rfl, sm, al⟩
        have fine : Fine rs := fun j r' e => al j r' (by rw [hR.1]; exact (List.getElem?_eq_some_iff.mp e).1) e
        wtm_at "ev_go"
        refine rd_sfldA (sm _ _ ha) T.cls T.n1 (by decide) ?_
        wtm_at "ev_go"
        refine rd_sfldA upd_same T.cls T.n2 (Nat.lt_of_le_of_lt (len_put _) (by decide)) ?_
        wtm_at "ev_go"
        have nra : r ≠ a := ne_of (sm _ _ hr0) (sm _ _ ha) (fun z => by cases z)
        refine ⟨r, L, rfl, .inl (SqL.of (lk_ne nra (sm _ _ hr0))), fun l hl => ?_⟩
        have nla : a ≠ l := ne_of_none upd_same hl
        wtm_at "ev_go"
        refine rd_sfldA (lk_ne nla upd_same) T.cls T.n3 (Nat.lt_of_le_of_lt (len_put' (len_put' len_nil)) (by decide)) ?_
        wtm_at "ev_go"
        refine ⟨a, dx, _, rfl, upd_same, by rw [lk_put (by decide +kernel), lk_put (by decide +kernel), lk_put (by decide +kernel)]; rfl, ?_⟩
        wtm_at "ev_go"
        have fr : Fr a H _ := (((Fr.of sm).put (x := .ins cB dx (putF "_high" (.int hi) (putF "_low" (.int lo) [])))).same (Same.new (o := .lst L) hl)).put (x := .ins cB dx (putF "_rules" (.ref l) (putF "_high" (.int hi) (putF "_low" (.int lo) []))))
        have ofFr : ∀ {H' : Hp}, Fr a H H' → RlR H' L rs := fun {H'} fr => ⟨hR.1, fun i v e => by
          obtain ⟨b, r', q1, q2, q3, q4⟩ := hR.2 i v e
          exact ⟨b, r', q1, q2, fr _ _ q3 (ne_of q3 ha (fun z => by cases z)), q4⟩⟩
        refine ⟨a, dx, l, _, lo, hi, L, rs, rfl, upd_same, by rw [lk_put (by decide +kernel), lk_put (by decide +kernel)]; exact lk_put0, by rw [lk_put (by decide +kernel)]; exact lk_put0, lk_put0, lk_ne (Ne.symm nla) upd_same, ofFr fr, hle, nlo, nhi, fun p L' H3 s3 hp3 r3 => ?_⟩
        wtm_at "ev_go"
        refine ⟨p, L', _, _, rfl, SqL.of hp3, r3, fine.wide, fun v H4 s4 hv => ?_⟩
        wtm_at "ev_go"
        refine rd_sfldA (s4 _ _ (s3 _ _ upd_same)) T.cls T.n4 (Nat.lt_of_le_of_lt (len_put' (len_put' (len_put' len_nil))) (by decide)) ?_
        wtm_at "ev_go"
        refine rd_sfldA upd_same T.cls T.n5 (Nat.lt_of_le_of_lt (len_put' (len_put' (len_put' (len_put' len_nil)))) (by decide)) ?_
        wtm_at "ev_go"
        refine rd_sfldA upd_same T.cls T.n6 (Nat.lt_of_le_of_lt (len_put' (len_put' (len_put' (len_put' (len_put' len_nil))))) (by decide)) ?_
        wtm_at "ev_go"
        have fr5 := (fr.same (s3.trans s4)).put (x := .ins cB dx (putF "_spots" .non (putF "_sums" .non (putF "_conflict" v (putF "_rules" (.ref l) (putF "_high" (.int hi) (putF "_low" (.int lo) [])))))))
        have hlN : H l = none := by
          cases e : H l with
          | none => rfl
          | some z =>
            have := sm _ _ e
            rw [upd_ne (Ne.symm nla), this] at hl
            cases hl
        refine k3 (by omega) fine _ l fr5 hlN ⟨dx, _, v, upd_same, lk_ne (Ne.symm nla) ((s3.trans s4) _ _ (lk_ne (Ne.symm nla) upd_same)), ?_, ?_, ?_, ?_, ?_, ofFr fr5, fun m hm => bookF_none hm, ?_, ?_⟩
        · rw [lk_put (by decide +kernel), lk_put (by decide +kernel), lk_put (by decide +kernel), lk_put (by decide +kernel), lk_put (by decide +kernel)]
          exact lk_put0
        · rw [lk_put (by decide +kernel), lk_put (by decide +kernel), lk_put (by decide +kernel), lk_put (by decide +kernel)]
          exact lk_put0
        · rw [lk_put (by decide +kernel), lk_put (by decide +kernel), lk_put (by decide +kernel)]
          exact lk_put0
        · rw [lk_put (by decide +kernel), lk_put (by decide +kernel)]
          exact lk_put0
        · rcases hv with ⟨e, n⟩ | ⟨q, i, j, e, e2, n⟩
          · exact .inl ⟨e, n⟩
          · exact .inr ⟨q, i, j, e, lk_ne (ne_of e2 (s4 _ _ (s3 _ _ upd_same)) (fun z => by cases z)) e2, n⟩
        · rw [lk_put (by decide +kernel)]
          exact lk_put0
        · exact Nat.lt_of_le_of_lt (len_put' (len_put' (len_put' (len_put' (len_put' (len_put' len_nil)))))) (by decide)
end
end

section
local macro_rules | `(tactic| wtm_at "ev_step") => `(tactic| with_reducible first | refine rd_fld ?_ | refine rd_sfld ?_ | refine rd_tmko ?_ | refine rd_meth0 ?_ | refine rd_make ?_ | refine rd_prop ?_ | refine rd_callK0 ?_)
section
local macro_rules | `(tactic| wtm_at "ev_step") => `(tactic| with_reducible first | refine rd_truL ?_ | refine rd_cb1 ?_)
section
theorem num15 {i : Int} (h : i.natAbs < 10 ^ 15) : Num i := Nat.lt_trans h (by decide +kernel)
structure TxH (mg : Str → Option Value) : Prop where
  heappush : mg "heappush" = some (.builtin "_heapq.heappush")
  heappop : mg "heappop" = some (.builtin "_heapq.heappop")
  gcd : mg "gcd" = some (.builtin "math.gcd")
def spLeast (K : PySem.W.Frag) : Sp := fun vs H Q _ => ∃ (a : Addr) (L : List V) (ms : List (Int × Int)) (r : Nat), vs = [.ref a, .int r] ∧ H a = some (.lst L) ∧ MvL H L ms ∧ ms ≠ [] ∧ ms.length ≤ 100 ∧ 1 ≤ r ∧ r ≤ 100 ∧ (∀ mv ∈ ms, MvOk r mv ∧ mv.2.natAbs ≤ 10 ^ 12) ∧ (∃ mv ∈ ms, 1 ≤ mv.2) ∧
  ∀ (l : Addr) (H' : Hp) (top : Int) (ks : List Int), Same H H' → H l = none → H' l = some (.lst (ks.map V.int)) → (r : Int) < top → top ≤ 10 ^ 15 → (∀ mv ∈ ms, (2 * (r : Int) + 2) * mv.2 + (2 * (r : Int) + 1) ≤ top) → Keys r ms top ks → Q (.ref l) H'
section
variable {P : Program} {w : World} {K : PySem.W.Frag} {mg : Str → Option Value} {base : Heap}
set_option maxHeartbeats 4000000 in
theorem ok_least {f : Addr} {fd : FuncData} (F : Fun K "least_keys" "least_keys" s_least_keys f fd) (T : Blt mg) (S : TxH mg) : FnOk P w K mg base CX0 1 f fd ["moves", "reach"] (spLeast K) := by
  refine F.ok sc_least_keys (fun vs H Q E h => ?_) (fun cdv A outer s H vs Q E hr h => ?_)
  · obtain ⟨a, L, ms, r, rfl, _⟩ := h
    rfl
  · obtain ⟨a, L, ms, r, rfl, ha, hM', hne, hml, r1, r2, ok, ⟨mvp, mvp1, mvp2⟩, q⟩ := h
    refine ⟨_, (pss_cons (ps_set (i := 2) sc_least_keys.nd rfl (Or.inl rfl) (pe_op op_add (pe_op op_mulW pe_int (pv 1)) pe_int))
      (pss_cons (ps_set (i := 4) sc_least_keys.nd rfl (Or.inl rfl) (pe_op op_add (pe_op op_mulW (pe_op op_add (pv 2) pe_int) (pe_callB (cr_max rfl) (by rfl) T.n_max boot_max (pa_cons (pe_lc (own := [("_", 10), ("more", 3)]) (g := gTup K 2 (gCons (gName 10) (gCons (gName 3) gNil))) (tt := tYes) rfl sc_least_keys.nd (pi_list (pv 0)) (blkOk_by (N := ["moves", "reach", "many", "more", "beyond", "best", "heap", "key", "place", "move", "_"]) (sc := defScope s_least_keys) (by decide +kernel)) (fun _ _ _ _ _ => pg_tup rfl (pgs_cons (pg_name (i := 10) sc_least_keys.nd rfl (Or.inl rfl)) (pgs_cons (pg_name (i := 3) sc_least_keys.nd rfl (Or.inl rfl)) pgs_nil))) (fun _ _ _ _ _ => pts_nil) (fun _ _ _ _ _ => (pv 3))) pa_nil))) (pv 2)))
      (pss_cons (ps_set (i := 5) sc_least_keys.nd rfl (Or.inl rfl) (pe_op op_cat (pe_op op_rep (pe_lst (pa_cons (pv 4) pa_nil)) (pv 2)) (pe_op op_rep (pe_lst (pa_cons (pe_un un_neg (pv 2)) pa_nil)) (pv 1))))
      (pss_cons (ps_asg (pv 1) (pg_sub (pv 5) (pv 1) set_list))
      (pss_cons (ps_set (i := 6) sc_least_keys.nd rfl (Or.inl rfl) (pe_lst (pa_cons (pv 1) pa_nil)))
      (C8.pss_cut (ps_while PassesOwn.never (pt_lst (pv 6) (by intro _; rfl)) 
        (pss_cons (ps_set (i := 7) sc_least_keys.nd rfl (Or.inl rfl) (pe_callBfun cr_pop (by rfl) S.heappop (pa_cons (pv 6) pa_nil)))
        (pss_cons (ps_set (i := 8) sc_least_keys.nd rfl (Or.inl rfl) (pe_op op_mod (pv 7) (pv 2)))
        (pss_one (ps_if (pt_cmpR op_eq (pv 7) (pe_ix ix_list (pv 5) (pv 8) (fun _ _ => rfl)) (nomark _)) 
          (pss_one (ps_for PassesOwn.never rfl (pi_list (pv 0)) (pg_tup rfl (pgs_cons (pg_name (i := 9) sc_least_keys.nd rfl (Or.inl rfl)) (pgs_cons (pg_name (i := 3) sc_least_keys.nd rfl (Or.inl rfl)) pgs_nil))) 
            (pss_one (ps_if (pt_cmpR op_lt (pe_op op_add (pv 7) (pv 3)) (pe_ix ix_list (pv 5) (pe_op op_add (pv 8) (pv 9)) (fun _ _ => rfl)) (nomark _)) 
              (pss_cons (ps_asg (pe_op op_add (pv 7) (pv 3)) (pg_sub (pv 5) (pe_op op_add (pv 8) (pv 9)) set_list))
              (pss_one (ps_expr (pe_callBfun cr_push (by rfl) S.heappush (pa_cons (pv 6) (pa_cons (pe_op op_add (pv 7) (pv 3)) pa_nil)))))) pss_nil)))) pss_nil)))))
      (pss_one (ps_ret (pe_slice sl_list (pv 5) po_none (po_some (pv 2))))))))))), ?_⟩
    have hM : (0 : Int) < 2 * r + 1 := by omega
    wtm_at "ev_go"
    refine rd_rI (Num.mul (num_of (by decide)) (num_of (by omega))) ?_
    wtm_at "ev_go"
    refine rd_lcM (fun x => x.2) (SqL.of ha) hM' (by have := hM'.1; omega) rfl (fun x y => rfl) (fun r' H' Q' _ _ fin => by wtm_at "ev_go"; exact fin) (fun l1 H1 s1 nl1 hl1 => ?_)
    wtm_at "ev_go"
    refine rd_max (SqL.of hl1) (by rw [List.length_map]; exact List.length_pos_iff.mpr hne) (fun m hm hmx => ?_)
    obtain ⟨mv0, hmv0, rfl⟩ := List.mem_map.mp hm
    have mx : ∀ mv ∈ ms, mv.2 ≤ mv0.2 := fun mv h => hmx mv.2 (List.mem_map.mpr ⟨mv, h, rfl⟩)
    obtain ⟨⟨o1, e0, o2⟩, o3⟩ := ok mv0 hmv0
    wtm_at "ev_go"
    refine rd_rI (Num.mul (num_of (by omega)) (num15 (by omega))) ?_
    wtm_at "ev_go"
    generalize htop : (2 * (r : Int) + 1 + 1) * mv0.2 + (2 * (r : Int) + 1) = top
    have topr : (r : Int) < top := by
      have h1 := mx mvp mvp1
      have : (2 * (r : Int) + 1 + 1) * 1 ≤ (2 * (r : Int) + 1 + 1) * mv0.2 := Int.mul_le_mul_of_nonneg_left (by omega) (by omega)
      omega
    have topb : (2 * (r : Int) + 1 + 1) * mv0.2 + (2 * (r : Int) + 1) ≤ 10 ^ 15 := by
      have : (2 * (r : Int) + 1 + 1) * mv0.2 ≤ (2 * (r : Int) + 1 + 1) * 10 ^ 12 := Int.mul_le_mul_of_nonneg_left (by omega) (by omega)
      omega
    have topm : ∀ mv ∈ ms, (2 * (r : Int) + 2) * mv.2 + (2 * (r : Int) + 1) ≤ top := fun mv h => by
      have : (2 * (r : Int) + 1 + 1) * mv.2 ≤ (2 * (r : Int) + 1 + 1) * mv0.2 := Int.mul_le_mul_of_nonneg_left (mx mv h) (by omega)
      rw [show 2 * (r : Int) + 2 = 2 * (r : Int) + 1 + 1 by omega]
      omega
    clear mx hmx hm hl1
    intro x1 hx1
    have q1 : (2 * (r : Int) + 1).toNat = 2 * r + 1 := by omega
    wtm_at "ev_go"
    refine ⟨x1, 2 * (r : Int) + 1, _, rfl, rfl, upd_same, by omega, by omega, by rw [q1, sizeLine_eq]; show 1 * _ ≤ _; omega, fun x2 hx2 => ?_⟩
    rw [q1, List.flatten_replicate_singleton]
    generalize hA : List.replicate (2 * r + 1) (V.int top) = LA
    have lA : LA.length = 2 * r + 1 := by rw [← hA, List.length_replicate]
    wtm_at "ev_go"
    intro x3 hx3
    wtm_at "ev_go"
    refine ⟨x3, (r : Int), _, rfl, rfl, upd_same, by omega, by omega, by rw [Int.toNat_natCast, sizeLine_eq]; show 1 * _ ≤ _; omega, fun x4 hx4 => ?_⟩
    rw [Int.toNat_natCast, List.flatten_replicate_singleton]
    generalize hB : List.replicate r (V.int (-(2 * (r : Int) + 1))) = LB
    have lB : LB.length = r := by rw [← hB, List.length_replicate]
    wtm_at "ev_go"
    have n23 : x2 ≠ x3 := ne_of_none upd_same hx3
    have n24 : x2 ≠ x4 := ne_of_none (lk_ne n23 upd_same) hx4
    refine rd_cat (lk_ne n24 (lk_ne n23 upd_same)) upd_same (by omega) (fun bl hbl => ?_)
    have sm := s1.trans ((Same.new (o := .lst [V.int top]) hx1).trans ((Same.new (o := .lst LA) hx2).trans ((Same.new (o := .lst [V.int (-(2 * (r : Int) + 1))]) hx3).trans ((Same.new (o := .lst LB) hx4).trans (Same.new (o := .lst (LA ++ LB)) hbl)))))
    have hblN : H bl = none := (s1.trans ((Same.new hx1).trans ((Same.new hx2).trans ((Same.new hx3).trans (Same.new hx4))))).free hbl
    have hb : upd (upd (upd (upd (upd H1 x1 (.lst [V.int top])) x2 (.lst LA)) x3 (.lst [V.int (-(2 * (r : Int) + 1))])) x4 (.lst LB)) bl (.lst (LA ++ LB)) bl = some (.lst ((List.replicate (2 * r + 1) top ++ List.replicate r (-(2 * (r : Int) + 1))).map V.int)) := by
      rw [upd_same, List.map_append, List.map_replicate, List.map_replicate, hA, hB]
    generalize upd (upd (upd (upd (upd H1 x1 (.lst [V.int top])) x2 (.lst LA)) x3 (.lst [V.int (-(2 * (r : Int) + 1))])) x4 (.lst LB)) bl (.lst (LA ++ LB)) = H2 at sm hb ⊢
    have lb0 : (List.replicate (2 * r + 1) top ++ List.replicate r (-(2 * (r : Int) + 1))).length = 3 * r + 1 := by
      rw [List.length_append, List.length_replicate, List.length_replicate]
      omega
    have ki := KI.init (ms := ms) r1 topr
    generalize List.replicate (2 * r + 1) top ++ List.replicate r (-(2 * (r : Int) + 1)) = b0 at hb lb0 ki
    clear hbl hx4 hx3 hx2 hx1 n24 n23 s1 nl1
    wtm_at "ev_go"
    refine rd_setL (k := r) hb (by unfold ixN; rw [if_pos (by omega), if_pos (by rw [List.length_map]; omega), Int.toNat_natCast]) ?_
    wtm_at "ev_go"
    intro hq hhp
    have e0 : (b0.map V.int).set r (V.int r) = (b0.set r r).map V.int := by rw [List.map_set]
    rw [e0] at hhp ⊢
    have nbq : bl ≠ hq := ne_of_none upd_same hhp
    have hqN : H hq = none := by
      cases e : H hq with
      | none => rfl
      | some z =>
        have := sm _ _ e
        rw [upd_ne (Ne.symm nbq), this] at hhp
        cases hhp
    have sm3 : Same H (upd (upd H2 bl (.lst ((b0.set r r).map V.int))) hq (.lst ([(r : Int)].map V.int))) := fun c o z => lk_ne (ne_of_none z hqN) (lk_ne (ne_of_none z hblN) (sm _ _ z))
    have hb3 : upd (upd H2 bl (.lst ((b0.set r r).map V.int))) hq (.lst ([(r : Int)].map V.int)) bl = some (.lst ((b0.set r r).map V.int)) := lk_ne nbq upd_same
    have hq3 : upd (upd H2 bl (.lst ((b0.set r r).map V.int))) hq (.lst ([(r : Int)].map V.int)) hq = some (.lst ([(r : Int)].map V.int)) := upd_same
    rw [show [V.int (r : Int)] = [(r : Int)].map V.int from rfl]
    generalize upd (upd H2 bl (.lst ((b0.set r r).map V.int))) hq (.lst ([(r : Int)].map V.int)) = H3 at sm3 hb3 hq3 ⊢
    clear hhp hb sm
    generalize b0.set r r = b1 at ki hb3
    wtm_at "ev_go"
    refine rd_cut (fun σ' H' => ∃ (x3 x7 x8 x9 x10 : Option V) (ks : List Int) (S : List Nat) (c0 : Int) (bs : List Int) (nn : Nat), σ' = [some (.ref a), some (.int r), some (.int (2 * (r : Int) + 1)), x3, some (.int top), some (.ref bl), some (.ref hq), x7, x8, x9, x10] ∧ Same H H' ∧ H' bl = some (.lst (bs.map V.int)) ∧ KI r ms top S c0 (fun _ _ => True) nn bs []) ?_ ?_
    · refine ⟨fun m σ' H' => ∃ (x3 x7 x8 x9 x10 : Option V) (ks : List Int) (S : List Nat) (c0 : Int) (bs : List Int), σ' = [some (.ref a), some (.int r), some (.int (2 * (r : Int) + 1)), x3, some (.int top), some (.ref bl), some (.ref hq), x7, x8, x9, x10] ∧ Same H H' ∧ H' bl = some (.lst (bs.map V.int)) ∧ H' hq = some (.lst (ks.map V.int)) ∧ KI r ms top S c0 (fun _ _ => True) (1 + S.length * ms.length) bs ks ∧ m = (2 * r + 1 - S.length) * (ms.length + 1) + ks.length,
        ⟨_, _, _, _, _, _, _, _, _, _, rfl, sm3, hb3, hq3, ki, rfl⟩, ?_⟩
      rintro m σ' H4 ⟨x3, x7, x8, x9, x10, ks, S, c0, bs, rfl, sm4, hb4, hq4, ki4, rfl⟩
      wtm_at "ev_go"
      refine ⟨hq, _, rfl, hq4, ?_⟩
      cases ks with
      | nil =>
        rw [if_neg (by decide)]
        exact ⟨_, _, _, _, _, [], S, c0, bs, _, rfl, sm4, hb4, ki4⟩
      | cons k0 kt =>
        rw [if_pos (by rfl)]
        refine ⟨fun σ' H' => ∃ m', m' < _ ∧ ∃ (x3 x7 x8 x9 x10 : Option V) (ks : List Int) (S : List Nat) (c0 : Int) (bs : List Int), σ' = [some (.ref a), some (.int r), some (.int (2 * (r : Int) + 1)), x3, some (.int top), some (.ref bl), some (.ref hq), x7, x8, x9, x10] ∧ Same H H' ∧ H' bl = some (.lst (bs.map V.int)) ∧ H' hq = some (.lst (ks.map V.int)) ∧ KI r ms top S c0 (fun _ _ => True) (1 + S.length * ms.length) bs ks ∧ m' = (2 * r + 1 - S.length) * (ms.length + 1) + ks.length, fun σ' H' h => h, ?_⟩
        wtm_at "ev_go"
        refine ⟨hq, k0 :: kt, rfl, hq4, ki4.hd, by simp, fun k ys py hy least => ?_⟩
        have npq : ∀ {c o}, H c = some o → c ≠ hq := fun z => ne_of_none z hqN
        have npb : ∀ {c o}, H c = some o → c ≠ bl := fun z => ne_of_none z hblN
        have sm5 : Same H (upd H4 hq (.lst (ys.map V.int))) := fun c o z => lk_ne (npq z) (sm4 _ _ z)
        have hb5 : upd H4 hq (.lst (ys.map V.int)) bl = some (.lst (bs.map V.int)) := lk_ne nbq hb4
        have hq5 : upd H4 hq (.lst (ys.map V.int)) hq = some (.lst (ys.map V.int)) := upd_same
        generalize upd H4 hq (.lst (ys.map V.int)) = H5 at sm5 hb5 hq5 ⊢
        have plen := py.length_eq
        simp only [List.length_cons] at plen
        wtm_at "ev_go"
        obtain ⟨kk0, kkc, kkt, b, eb, lb⟩ := ki4.hp k (py.mem_iff.mp List.mem_cons_self)
        have p0 := Int.emod_nonneg k (show (2 * (r : Int) + 1) ≠ 0 by omega)
        have p1 := Int.emod_lt_of_pos k hM
        have pc : ((k % (2 * (r : Int) + 1)).toNat : Int) = k % (2 * (r : Int) + 1) := by omega
        refine rd_ixL (SqL.of hb5) (v := .int b) (by
          unfold atI ixN
          rw [if_pos p0, if_pos (by rw [List.length_map, ki4.len]; omega)]
          show (bs.map V.int)[_]? = _
          rw [List.getElem?_map, eb]
          rfl) ?_
        wtm_at "ev_go"
        refine rd_ite (fun ek => ?_) (fun ek => ?_)
        · have ek' : k = b := by injection ek
          subst ek'
          obtain ⟨nS, ki5⟩ := ki4.settle py hy least eb
          generalize hpp : (k % (2 * (r : Int) + 1)).toNat = p at pc eb nS ki5
          have hpl : p < 2 * r + 1 := by omega
          have slen : S.length + 1 ≤ 2 * r + 1 := nodup_le (2 * r + 1) (p :: S) (ki5.sn) (fun x hx => (ki5.sb x hx).1)
          wtm_at "ev_go"
          refine rd_forL (xs := L) (fun i σ' H' => ∃ (x3 x9 x10 : Option V) (ks bs : List Int), σ' = [some (.ref a), some (.int r), some (.int (2 * (r : Int) + 1)), x3, some (.int top), some (.ref bl), some (.ref hq), some (.int k), some (.int (k % (2 * (r : Int) + 1))), x9, x10] ∧ Same H H' ∧ H' bl = some (.lst (bs.map V.int)) ∧ H' hq = some (.lst (ks.map V.int)) ∧ bs[p]? = some k ∧ ks.length ≤ kt.length + i ∧
            KI r ms top (p :: S) (k / (2 * (r : Int) + 1)) (fun x j => x ≠ p ∨ j < i) (S.length * ms.length + i) bs ks) ⟨_, _, _, _, _, rfl, sm5, hb5, hq5, eb, by omega, ki5.imp (fun x j _ h => h.elim id fun h => absurd h (Nat.not_lt_zero _)) (by omega)⟩
            (fun i σ' H' _ h => by obtain ⟨_, _, _, _, _, _, z, _⟩ := h; exact SqL.of (z _ _ ha)) ?_ ?_
          · rintro i v σ' H6 hx ⟨x3, x9, x10, ks6, bs6, rfl, sm6, hb6, hq6, eb6, lk6, ki6⟩
            obtain ⟨bb, mv, rfl, hmv, hbb⟩ := (hM'.mono sm6).2 i v hx
            have hmm := List.mem_of_getElem? hmv
            have okm := (ok mv hmm).1
            have il := (List.getElem?_eq_some_iff.mp hmv).1
            obtain ⟨w, ew, win, wout⟩ := ki6.look hpl okm
            wtm_at "ev_go"
            rw [pc] at ew win wout
            refine rd_ixL (SqL.of hb6) ew ?_
            wtm_at "ev_go"
            refine rd_ite (fun lt => ?_) (fun nlt => ?_)
            · obtain ⟨c, hc, hc0, ekc⟩ := ki6.key List.mem_cons_self eb6 rfl okm
              rw [pc] at ekc
              have okm1 := okm.1
              have inr : 0 ≤ k % (2 * (r : Int) + 1) + mv.1 ∧ k % (2 * (r : Int) + 1) + mv.1 < 2 * (r : Int) + 1 := by
                have nn := Int.mul_nonneg hc0 (show (0 : Int) ≤ 2 * r + 1 by omega)
                by_cases c1 : k % (2 * (r : Int) + 1) + mv.1 < 0
                · have := wout (.inl c1)
                  omega
                · by_cases c2 : 2 * (r : Int) + 1 ≤ k % (2 * (r : Int) + 1) + mv.1
                  · have := wout (.inr c2)
                    omega
                  · omega
              obtain ⟨q', hq'⟩ : ∃ q' : Nat, k % (2 * (r : Int) + 1) + mv.1 = q' := ⟨(k % (2 * (r : Int) + 1) + mv.1).toNat, by omega⟩
              have q'l : q' < 2 * r + 1 := by omega
              obtain ⟨e1, e2⟩ := win q' hq' q'l
              have nq' := ki6.fresh List.mem_cons_self eb6 rfl okm (by rw [pc]; exact hq') q'l e1 lt
              wtm_at "ev_go"
              refine rd_setL hb6 e2 ?_
              rw [show (bs6.map V.int).set q' (V.int (k + mv.2)) = (bs6.set q' (k + mv.2)).map V.int by rw [List.map_set]]
              wtm_at "ev_go"
              have hq7 : upd H6 bl (.lst ((bs6.set q' (k + mv.2)).map V.int)) hq = some (.lst (ks6.map V.int)) := lk_ne (Ne.symm nbq) hq6
              have bnd : S.length * ms.length ≤ 201 * 100 := Nat.mul_le_mul (by omega) hml
              refine ⟨hq, ks6, k + mv.2, rfl, hq7, ki6.hd, by have := ki6.le; rw [sizeLine_eq]; omega, fun zs pz hz => ?_⟩
              refine ⟨_, _, _, zs, bs6.set q' (k + mv.2), rfl, fun c o z => lk_ne (npq z) (lk_ne (npb z) (sm6 _ _ z)), lk_ne nbq upd_same, upd_same, ?_, by rw [pz.length_eq, List.length_cons]; omega, ?_⟩
              · rw [List.getElem?_set_ne (fun z => nq' (by rw [z]; exact List.mem_cons_self))]
                exact eb6
              · refine (ki6.push List.mem_cons_self eb6 rfl okm hmv (by rw [pc]; exact hq') q'l e1 lt pz hz).imp (fun x j _ h => ?_) (by omega)
                rcases h with h | h
                · exact .inl (.inl h)
                · by_cases cx : x = p
                  · rcases Nat.lt_succ_iff_lt_or_eq.mp h with h | h
                    · exact .inl (.inr h)
                    · exact .inr ⟨cx, h⟩
                  · exact .inl (.inl cx)
            · wtm_at "ev_go"
              refine ⟨_, _, _, ks6, bs6, rfl, sm6, hb6, hq6, eb6, by omega, ?_⟩
              refine (ki6.skip List.mem_cons_self eb6 hmv (fun q' h1 h2 => ⟨w, (win q' (by rw [← pc]; exact h1) h2).1, by omega⟩)).imp (fun x j _ h => ?_) (by omega)
              rcases h with h | h
              · exact .inl (.inl h)
              · by_cases cx : x = p
                · rcases Nat.lt_succ_iff_lt_or_eq.mp h with h | h
                  · exact .inl (.inr h)
                  · exact .inr ⟨cx, h⟩
                · exact .inl (.inl cx)
          · rintro σ' H6 ⟨x3, x9, x10, ks6, bs6, rfl, sm6, hb6, hq6, eb6, lk6, ki6⟩
            have el : L.length = ms.length := hM'.1
            refine ⟨_, ?_, _, _, _, _, _, ks6, p :: S, _, bs6, rfl, sm6, hb6, hq6, ki6.imp (fun x j h _ => .inr (by omega)) ?_, rfl⟩
            · rw [List.length_cons]
              obtain ⟨d, hd⟩ : ∃ d, 2 * r + 1 - S.length = d + 1 := ⟨2 * r - S.length, by omega⟩
              rw [hd, show 2 * r + 1 - (S.length + 1) = d by omega, Nat.succ_mul]
              omega
            · rw [List.length_cons, Nat.succ_mul]
              omega
        · wtm_at "ev_go"
          refine ⟨_, ?_, _, _, _, _, _, ys, S, c0, bs, rfl, sm5, hb5, hq5, ki4.drop py hy eb (fun z => ek (by rw [z])), rfl⟩
          omega
    · rintro σ' H' ⟨x3, x7, x8, x9, x10, ks, S, c0, bs, nn, rfl, sm4, hb4, ki4⟩
      wtm_at "ev_go"
      refine rd_slL (SqL.of hb4) (fun c hc => ?_)
      have e1 : cutV (bs.map V.int) none (some (2 * (r : Int) + 1)) = (bs.take (2 * r + 1)).map V.int := by
        rw [show (2 * (r : Int) + 1) = ((2 * r + 1 : Nat) : Int) by omega, cutV_head, List.map_take]
      rw [e1]
      exact q c _ top _ (sm4.trans (Same.new hc)) (sm4.free hc) upd_same topr (by rw [← htop]; exact topb) topm ki4.keys
end
end

section
/-- the step with the least worth for each day, the shortest of several such -/
def Tight (b : Int × Int) (ms : List (Int × Int)) : Prop := ∀ m ∈ ms, b.2 * m.1 ≤ m.2 * b.1 ∧ (b.2 * m.1 = m.2 * b.1 → b.1 ≤ m.1)
theorem tight_step {b n m : Int × Int} (hb : 0 < b.1) (hn : 0 < n.1) (hm : 0 < m.1) (h : b.2 * m.1 ≤ m.2 * b.1 ∧ (b.2 * m.1 = m.2 * b.1 → b.1 ≤ m.1)) (u : n.2 * b.1 - b.2 * n.1 < 0 ∨ (n.2 * b.1 - b.2 * n.1 = 0 ∧ n.1 < b.1)) :
    n.2 * m.1 ≤ m.2 * n.1 ∧ (n.2 * m.1 = m.2 * n.1 → n.1 ≤ m.1) := by
  obtain ⟨h1, h2⟩ := h
  have a1 : b.2 * m.1 * n.1 ≤ m.2 * b.1 * n.1 := Int.mul_le_mul_of_nonneg_right h1 (by omega)
  have e1 : b.2 * m.1 * n.1 = b.2 * n.1 * m.1 := by rw [Int.mul_assoc, Int.mul_assoc, Int.mul_comm m.1]
  have e2 : m.2 * b.1 * n.1 = m.2 * n.1 * b.1 := by rw [Int.mul_assoc, Int.mul_assoc, Int.mul_comm b.1]
  have e3 : n.2 * m.1 * b.1 = n.2 * b.1 * m.1 := by rw [Int.mul_assoc, Int.mul_assoc, Int.mul_comm m.1]
  rw [e1, e2] at a1
  have a2 : n.2 * b.1 * m.1 ≤ b.2 * n.1 * m.1 := Int.mul_le_mul_of_nonneg_right (by omega) (by omega)
  refine ⟨Int.le_of_mul_le_mul_right (a := b.1) (by rw [e3]; omega) hb, fun eq => ?_⟩
  have e4 : n.2 * b.1 * m.1 = m.2 * n.1 * b.1 := by rw [← e3, eq]
  have e5 : b.2 * n.1 * m.1 = n.2 * b.1 * m.1 := by omega
  have e6 : b.2 * n.1 = n.2 * b.1 := Int.eq_of_mul_eq_mul_right (by omega) e5
  rcases u with u | ⟨_, u⟩
  · omega
  · have : b.2 * m.1 = m.2 * b.1 := Int.eq_of_mul_eq_mul_right (a := n.1) (by omega) (by rw [e1, e2]; omega)
    have := h2 this
    omega
def spStrictest : Sp := fun vs H Q _ => ∃ (a : Addr) (L : List V) (ms : List (Int × Int)), vs = [.ref a] ∧ H a = some (.lst L) ∧ MvL H L ms ∧ ms ≠ [] ∧ (∀ m ∈ ms, 0 < m.1 ∧ m.1.natAbs ≤ 10 ^ 9 ∧ m.2.natAbs ≤ 10 ^ 12) ∧
  ∀ (b : Int × Int) (p : Addr), H p = none → b ∈ ms → Tight b ms → Q (.ref p) (upd H p (.tup [.int b.1, .int b.2]))
section
variable {P : Program} {w : World} {K : PySem.W.Frag} {mg : Str → Option Value} {base : Heap}
theorem ok_strictest {f : Addr} {fd : FuncData} (F : Fun K "strictest" "strictest" s_strictest f fd) : FnOk P w K mg base CX0 1 f fd ["steps"] spStrictest := by
  refine F.ok sc_strictest (fun vs H Q E h => ?_) (fun cdv A outer s H vs Q E hr h => ?_)
  · obtain ⟨a, L, ms, rfl, _⟩ := h
    rfl
  · obtain ⟨a, L, ms, rfl, ha, hM, hne, hn, q⟩ := h
    refine ⟨_, (pss_cons (ps_asg (pe_ix ix_list (pv 0) pe_int (fun _ _ => rfl)) (pg_tup rfl (pgs_cons (pg_name (i := 1) sc_strictest.nd rfl (Or.inl rfl)) (pgs_cons (pg_name (i := 2) sc_strictest.nd rfl (Or.inl rfl)) pgs_nil))))
      (pss_cons (ps_for PassesOwn.never rfl (pi_list (pv 0)) (pg_tup rfl (pgs_cons (pg_name (i := 3) sc_strictest.nd rfl (Or.inl rfl)) (pgs_cons (pg_name (i := 4) sc_strictest.nd rfl (Or.inl rfl)) pgs_nil))) 
        (pss_cons (ps_set (i := 5) sc_strictest.nd rfl (Or.inl rfl) (pe_op op_sub (pe_op op_mulW (pv 4) (pv 1)) (pe_op op_mulW (pv 2) (pv 3))))
        (pss_one (ps_if (pw_or (pt_cmpR op_lt (pv 5) pe_int (nomark _)) (pw_or1 (pw_and (pt_cmpR op_eq (pv 5) pe_int (nomark _)) (pw_and1 (pt_cmpR op_lt (pv 3) (pv 1) (nomark _)))).pt)).pt 
          (pss_one (ps_par (i := 1) (j := 2) (by rfl) sc_strictest.nd rfl rfl (by decide) rfl rfl (pa_cons (pv 3) (pa_cons (pv 4) pa_nil)) (by rfl))) pss_nil))))
      (pss_one (ps_ret (pe_tup (pa_cons (pv 1) (pa_cons (pv 2) pa_nil))))))), ?_⟩
    obtain ⟨m0, mt, rfl⟩ : ∃ m t, ms = m :: t := by
      cases ms with
      | nil => exact absurd rfl hne
      | cons m t => exact ⟨m, t, rfl⟩
    have l0 : 0 < L.length := by rw [hM.1]; exact Nat.succ_pos _
    obtain ⟨a0, r0, e0, e1, e2⟩ := hM.2 0 L[0] (List.getElem?_eq_getElem l0)
    cases e1
    wtm_at "ev_go"
    refine rd_ixL (SqL.of ha) (v := .ref a0) (by rw [show (0 : Int) = ((0 : Nat) : Int) from rfl, atI_natR l0, List.getElem?_eq_getElem l0, e0]) ?_
    wtm_at "ev_go"
    have num : ∀ m ∈ m0 :: mt, Num m.1 ∧ Num m.2 := fun m h => ⟨num15 (by have := (hn m h).2.1; omega), num15 (by have := (hn m h).2.2; omega)⟩
    refine rd_forL (xs := L) (fun i σ' H' => ∃ (x3 x4 x5 : Option V) (b : Int × Int), σ' = [some (.ref a), some (.int b.1), some (.int b.2), x3, x4, x5] ∧ H' = H ∧ b ∈ m0 :: mt ∧ Tight b ((m0 :: mt).take i)) ⟨_, _, _, m0, rfl, rfl, List.mem_cons_self, fun m h => by rw [List.take_zero] at h; cases h⟩
      (fun i σ' H' _ h => by obtain ⟨_, _, _, _, _, z, _⟩ := h; rw [z]; exact SqL.of ha) ?_ ?_
    · rintro i v σ' H' hx ⟨x3, x4, x5, b, rfl, rfl, hb, tb⟩
      obtain ⟨bb, n, rfl, hn', hbb⟩ := hM.2 i v hx
      have nm := List.mem_of_getElem? hn'
      obtain ⟨nb1, nb2⟩ := num b hb
      obtain ⟨nn1, nn2⟩ := num n nm
      have tk : (m0 :: mt).take (i + 1) = (m0 :: mt).take i ++ [n] := by rw [List.take_add_one, hn']; rfl
      have keep : ¬ (n.2 * b.1 - b.2 * n.1 < 0 ∨ (n.2 * b.1 - b.2 * n.1 = 0 ∧ n.1 < b.1)) → Tight b ((m0 :: mt).take (i + 1)) := fun c m hm => by
        rw [tk] at hm
        rcases List.mem_append.mp hm with hm | hm
        · exact tb m hm
        · rw [List.mem_singleton.mp hm]
          refine ⟨?_, fun e => ?_⟩
          · have : ¬ n.2 * b.1 - b.2 * n.1 < 0 := fun z => c (.inl z)
            omega
          · have : ¬ n.1 < b.1 := fun z => c (.inr ⟨by omega, z⟩)
            omega
      have take : (n.2 * b.1 - b.2 * n.1 < 0 ∨ (n.2 * b.1 - b.2 * n.1 = 0 ∧ n.1 < b.1)) → Tight n ((m0 :: mt).take (i + 1)) := fun c m hm => by
        rw [tk] at hm
        rcases List.mem_append.mp hm with hm | hm
        · exact tight_step (hn b hb).1 (hn n nm).1 (hn m (List.mem_of_mem_take hm)).1 (tb m hm) c
        · rw [List.mem_singleton.mp hm]
          exact ⟨Int.le_refl _, fun _ => Int.le_refl _⟩
      wtm_at "ev_go"
      refine rd_ite (fun c1 => ?_) (fun c1 => ?_)
      · rw [if_pos trivial]
        wtm_at "ev_go"
        exact ⟨_, _, _, n, rfl, trivial, nm, take (.inl c1)⟩
      · wtm_at "ev_go"
        refine rd_ite (fun c2 => ?_) (fun c2 => ?_)
        · have c2' : n.2 * b.1 - b.2 * n.1 = 0 := by injection c2
          wtm_at "ev_go"
          refine rd_ite (fun c3 => ?_) (fun c3 => ?_)
          · wtm_at "ev_go"
            exact ⟨_, _, _, n, rfl, trivial, nm, take (.inr ⟨c2', c3⟩)⟩
          · wtm_at "ev_go"
            exact ⟨_, _, _, b, rfl, trivial, hb, keep (fun z => z.elim c1 fun z => c3 z.2)⟩
        · wtm_at "ev_go"
          exact ⟨_, _, _, b, rfl, trivial, hb, keep (fun z => z.elim c1 fun z => c2 (by rw [z.1]))⟩
    · rintro σ' H' ⟨x3, x4, x5, b, rfl, rfl, hb, tb⟩
      rw [hM.1, List.take_length] at tb
      wtm_at "ev_go"
      exact fun p hp => q b p hp hb tb
end
end

section
def spNear : Sp := fun vs H Q _ => ∃ (a b : Addr) (La Lb : List V) (us ds : List (Int × Int)) (d1 d2 : Int), vs = [.ref a, .ref b] ∧ H a = some (.lst La) ∧ MvL H La us ∧ H b = some (.lst Lb) ∧ MvL H Lb ds ∧ ((1 : Int), d1) ∈ us ∧ ((1 : Int), d2) ∈ ds ∧ us.length ≤ 40 ∧ ds.length ≤ 40 ∧
  (∀ s ∈ us ++ ds, 1 ≤ s.1 ∧ s.1 ≤ 100 ∧ s.2.natAbs ≤ 10 ^ 6) ∧ (∀ s ∈ ds, ∀ u ∈ us, 0 ≤ s.2 * u.1 + u.2 * s.1) ∧
  ∀ (r : Nat) (l : Addr) (H' : Hp) (xs : List Int), Same H H' → H l = none → H' l = some (.lst (xs.map V.int)) → (∀ s ∈ us ++ ds, s.1 ≤ r) → (∃ s ∈ us ++ ds, s.1 = r) → xs.length = 2 * r + 1 →
    (∀ p, p < 2 * r + 1 → ∃ x, xs[p]? = some x ∧ Wy r us ds p x ∧ ∀ y, Wy r us ds p y → x ≤ y) → Q (.ref l) H'
section
variable {P : Program} {w : World} {K : PySem.W.Frag} {mg : Str → Option Value} {base : Heap}
set_option maxHeartbeats 4000000 in
theorem ok_near {f : Addr} {fd : FuncData} (F : Fun K "near_sums" "near_sums" s_near_sums f fd) (T : Blt mg) (GT : CalN P w K mg base 1 "strictest" spStrictest) (GLK : CalN P w K mg base 1 "least_keys" (spLeast K)) : FnOk P w K mg base CX0 2 f fd ["ups", "downs"] spNear := by
  refine F.ok sc_near_sums (fun vs H Q E h => ?_) (fun cdv A outer s H vs Q E hr h => ?_)
  · obtain ⟨a, b, La, Lb, us, ds, d1, d2, rfl, _⟩ := h
    rfl
  · obtain ⟨a, b, La, Lb, us, ds, d1, d2, rfl, ha, hU, hb, hD, u1, u2, lu, ld, nb, rows, q⟩ := h
    refine ⟨_, (pss_cons (ps_asg (pe_cN GT hr (by decide) (by rfl) (pa_cons (pv 0) pa_nil)) (pg_tup rfl (pgs_cons (pg_name (i := 2) sc_near_sums.nd rfl (Or.inr rfl)) (pgs_cons (pg_name (i := 3) sc_near_sums.nd rfl (Or.inr rfl)) pgs_nil))))
      (pss_cons (ps_set (i := 4) sc_near_sums.nd rfl (Or.inr rfl) (pe_callB (cr_max rfl) (by rfl) T.n_max boot_max (pa_cons (pe_lc (own := [("step", 13)]) (g := gName 13) (tt := tYes) rfl sc_near_sums.nd (pi_list (pe_op op_cat (pv 0) (pv 1))) (blkOk_by (N := ["ups", "downs", "wide", "top", "reach", "many", "forward", "backward", "keys", "width", "worth", "place", "key", "step"]) (sc := defScope s_near_sums) (by decide +kernel)) (fun _ _ _ _ _ => pg_name (i := 13) sc_near_sums.nd rfl (Or.inl rfl)) (fun _ _ _ _ _ => pts_nil) (fun _ _ _ _ _ => (pe_ix (show IxR _ (rIxT K) from ix_tup) (pv 13) pe_int (fun _ _ => rfl)))) pa_nil)))
      (pss_cons (ps_set (i := 5) sc_near_sums.nd rfl (Or.inr rfl) (pe_op op_add (pe_op op_mulW pe_int (pv 4)) pe_int))
      (pss_cons (ps_setLc (i := 6) (own := [("width", 9), ("worth", 10)]) (g := gTup K 2 (gCons (gName 9) (gCons (gName 10) gNil))) (tt := tYes) rfl sc_near_sums.nd rfl rfl (sw_true rfl rfl rfl (by decide +kernel)) (pi_list (pv 0)) (blkOk_by (N := ["ups", "downs", "wide", "top", "reach", "many", "forward", "backward", "keys", "width", "worth", "place", "key", "step"]) (sc := defScope s_near_sums) (by decide +kernel)) (fun _ _ _ _ _ => pg_tup rfl (pgs_cons (pg_name (i := 9) sc_near_sums.nd rfl (Or.inl rfl)) (pgs_cons (pg_name (i := 10) sc_near_sums.nd rfl (Or.inl rfl)) pgs_nil))) (fun _ _ _ _ _ => pts_nil) (fun _ _ _ _ _ => (pe_tup (pa_cons (pv 9) (pa_cons (pe_op op_add (pe_op op_mulW (pe_op op_sub (pe_op op_mulW (pv 10) (pv 2)) (pe_op op_mulW (pv 3) (pv 9))) (pv 5)) (pv 9)) pa_nil)))))
      (pss_cons (ps_setLc (i := 7) (own := [("width", 9), ("worth", 10)]) (g := gTup K 2 (gCons (gName 9) (gCons (gName 10) gNil))) (tt := tYes) rfl sc_near_sums.nd rfl rfl (sw_true rfl rfl rfl (by decide +kernel)) (pi_list (pv 1)) (blkOk_by (N := ["ups", "downs", "wide", "top", "reach", "many", "forward", "backward", "keys", "width", "worth", "place", "key", "step"]) (sc := defScope s_near_sums) (by decide +kernel)) (fun _ _ _ _ _ => pg_tup rfl (pgs_cons (pg_name (i := 9) sc_near_sums.nd rfl (Or.inl rfl)) (pgs_cons (pg_name (i := 10) sc_near_sums.nd rfl (Or.inl rfl)) pgs_nil))) (fun _ _ _ _ _ => pts_nil) (fun _ _ _ _ _ => (pe_tup (pa_cons (pe_un un_neg (pv 9)) (pa_cons (pe_op op_sub (pe_op op_mulW (pe_op op_add (pe_op op_mulW (pv 10) (pv 2)) (pe_op op_mulW (pv 3) (pv 9))) (pv 5)) (pv 9)) pa_nil)))))
      (pss_cons (ps_set (i := 8) sc_near_sums.nd rfl (Or.inl rfl) (pe_cN GLK hr (by decide) (by rfl) (pa_cons (pe_op op_cat (pv 6) (pv 7)) (pa_cons (pv 4) pa_nil))))
      (pss_one (ps_ret (pe_lc (own := [("place", 11), ("key", 12)]) (g := gTup K 2 (gCons (gName 11) (gCons (gName 12) gNil))) (tt := tYes) rfl sc_near_sums.nd (pi_enum (by rfl) T.n_enumerate (pa_cons (pv 8) pa_nil)) (blkOk_by (N := ["ups", "downs", "wide", "top", "reach", "many", "forward", "backward", "keys", "width", "worth", "place", "key", "step"]) (sc := defScope s_near_sums) (by decide +kernel)) (fun _ _ _ _ _ => pg_tup rfl (pgs_cons (pg_name (i := 11) sc_near_sums.nd rfl (Or.inl rfl)) (pgs_cons (pg_name (i := 12) sc_near_sums.nd rfl (Or.inl rfl)) pgs_nil))) (fun _ _ _ _ _ => pts_nil) (fun _ _ _ _ _ => (pe_op op_fdivW (pe_op op_add (pe_op op_fdivW (pv 12) (pv 5)) (pe_op op_mulW (pv 3) (pe_op op_sub (pv 11) (pv 4)))) (pv 2)))))))))))), ?_⟩
    have nu : ∀ s ∈ us, 1 ≤ s.1 ∧ s.1 ≤ 100 ∧ s.2.natAbs ≤ 10 ^ 6 := fun s h => nb s (List.mem_append_left _ h)
    have nd : ∀ s ∈ ds, 1 ≤ s.1 ∧ s.1 ≤ 100 ∧ s.2.natAbs ≤ 10 ^ 6 := fun s h => nb s (List.mem_append_right _ h)
    wtm_at "ev_go"
    refine ⟨a, La, us, rfl, ha, hU, (fun z => by rw [z] at u1; cases u1), (fun m h => by have := nu m h; omega), fun wt p hp bm tight => ?_⟩
    obtain ⟨W, T'⟩ := wt
    have s1 := Same.new (o := .tup [V.int W, .int T']) hp
    have nW := nu _ bm
    wtm_at "ev_go"
    refine rd_cat (s1 _ _ ha) (s1 _ _ hb) (by rw [hU.1, hD.1]; omega) (fun c hc => ?_)
    have s2 := s1.trans (Same.new (o := .lst (La ++ Lb)) hc)
    wtm_at "ev_go"
    refine rd_lcS (fun s => s.1) (SqL.of upd_same) ((hU.mono s2).append (hD.mono s2)) (by rw [List.length_append, hU.1, hD.1]; omega) (fun x => rfl) (fun bb r H' Q' _ _ hbb fin => ?_) (fun l1 H2 s3 nl1 hl1 => ?_)
    · wtm_at "ev_go"
      exact fin
    have s4 := s2.trans s3
    wtm_at "ev_go"
    refine rd_max (SqL.of hl1) (by rw [List.length_map, List.length_append]; have := List.length_pos_of_mem u1; omega) (fun m hm hmx => ?_)
    obtain ⟨sm, hsm, rfl⟩ := List.mem_map.mp hm
    have nsm := nb sm hsm
    have wid : ∀ s ∈ us ++ ds, s.1 ≤ sm.1 := fun s h => hmx s.1 (List.mem_map.mpr ⟨s, h, rfl⟩)
    obtain ⟨r, hr0⟩ : ∃ r : Nat, sm.1 = r := ⟨sm.1.toNat, by omega⟩
    rw [hr0]
    rw [hr0] at wid nsm
    clear hmx hm hl1
    wtm_at "ev_go"
    try (refine rd_rI (Num.mul (num_of (by omega)) (num_of (by omega))) ?_; wtm_at "ev_go")
    have bnd : ∀ {x y : Int} {m n : Nat}, x.natAbs ≤ m → y.natAbs ≤ n → (x * y).natAbs ≤ m * n := fun hx hy => by
      rw [Int.natAbs_mul]
      exact Nat.mul_le_mul hx hy
    have ex : ∀ s : Int × Int, (1 ≤ s.1 ∧ s.1 ≤ 100 ∧ s.2.natAbs ≤ 10 ^ 6) → (s.2 * W).natAbs ≤ 10 ^ 6 * 100 ∧ (T' * s.1).natAbs ≤ 10 ^ 6 * 100 := fun s h => ⟨bnd h.2.2 (by omega), bnd nW.2.2 (by omega)⟩
    refine rd_lcP (mvUp W T' (2 * (r : Int) + 1)) (SqL.of (s4 _ _ ha)) (hU.mono s4) (by rw [hU.1]; omega) rfl (fun x y => rfl) (fun s H' Q' hs _ fin => ?_) (fun fw RF H3 s5 nfw hfw hF => ?_)
    · have e := ex s (nu s hs)
      have ns := nu s hs
      wtm_at "ev_go"
      try (refine rd_rI (Num.mul (num15 (by omega)) (num15 (by omega))) ?_; wtm_at "ev_go")
      try (refine rd_rI (Num.mul (num15 (by omega)) (num15 (by omega))) ?_; wtm_at "ev_go")
      try (refine rd_rI (Num.mul (num15 (by omega)) (num15 (by omega))) ?_; wtm_at "ev_go")
      exact fin
    have s6 := s4.trans s5
    wtm_at "ev_go"
    refine rd_lcP (mvDn W T' (2 * (r : Int) + 1)) (SqL.of (s6 _ _ hb)) (hD.mono s6) (by rw [hD.1]; omega) rfl (fun x y => rfl) (fun s H' Q' hs _ fin => ?_) (fun bw RB H4 s7 nbw hbw hB => ?_)
    · have e := ex s (nd s hs)
      have ns := nd s hs
      wtm_at "ev_go"
      try (refine rd_rI (Num.mul (num15 (by omega)) (num15 (by omega))) ?_; wtm_at "ev_go")
      try (refine rd_rI (Num.mul (num15 (by omega)) (num15 (by omega))) ?_; wtm_at "ev_go")
      try (refine rd_rI (Num.mul (num15 (by omega)) (num15 (by omega))) ?_; wtm_at "ev_go")
      exact fin
    have s8 := s6.trans s7
    wtm_at "ev_go"
    refine rd_cat (s7 _ _ hfw) hbw (by rw [hF.1, hB.1, List.length_map, List.length_map]; omega) (fun mvl hmv => ?_)
    have s9 := s8.trans (Same.new (o := .lst (RF ++ RB)) hmv)
    have hMV : MvL (upd H4 mvl (.lst (RF ++ RB))) (RF ++ RB) (mvs W T' (2 * (r : Int) + 1) us ds) := ((hF.mono s7).mono (Same.new hmv)).append (hB.mono (Same.new hmv))
    have okm : ∀ mv ∈ mvs W T' (2 * (r : Int) + 1) us ds, MvOk r mv ∧ mv.2.natAbs ≤ 10 ^ 12 := fun mv hm => by
      rcases List.mem_append.mp hm with hm | hm
      · obtain ⟨s, hs, rfl⟩ := List.mem_map.mp hm
        have e := ex s (nu s hs)
        have ns := nu s hs
        have ws := wid s (List.mem_append_left _ hs)
        have tt : T' * s.1 ≤ s.2 * W := (tight s hs).1
        have t0 : 0 ≤ s.2 * W - T' * s.1 := by omega
        have b2 := bnd (m := 2 * 10 ^ 8) (n := 201) (show (s.2 * W - T' * s.1).natAbs ≤ _ by omega) (show (2 * (r : Int) + 1).natAbs ≤ 201 by omega)
        refine ⟨⟨show s.1.natAbs ≤ r by omega, (s.2 * W - T' * s.1).toNat, ?_⟩, show ((s.2 * W - T' * s.1) * (2 * (r : Int) + 1) + s.1).natAbs ≤ _ by omega⟩
        show (s.2 * W - T' * s.1) * (2 * (r : Int) + 1) + s.1 = _
        rw [Int.toNat_of_nonneg t0]
        rfl
      · obtain ⟨s, hs, rfl⟩ := List.mem_map.mp hm
        have e := ex s (nd s hs)
        have ns := nd s hs
        have ws := wid s (List.mem_append_right _ hs)
        have t0 : 0 ≤ s.2 * W + T' * s.1 := by have := rows s hs _ bm; exact this
        have b2 := bnd (m := 2 * 10 ^ 8) (n := 201) (show (s.2 * W + T' * s.1).natAbs ≤ _ by omega) (show (2 * (r : Int) + 1).natAbs ≤ 201 by omega)
        refine ⟨⟨show (-s.1).natAbs ≤ r by omega, (s.2 * W + T' * s.1).toNat, ?_⟩, show ((s.2 * W + T' * s.1) * (2 * (r : Int) + 1) - s.1).natAbs ≤ _ by omega⟩
        show (s.2 * W + T' * s.1) * (2 * (r : Int) + 1) - s.1 = _
        rw [Int.toNat_of_nonneg t0]
        rfl
    wtm_at "ev_go"
    refine ⟨mvl, _, _, r, rfl, upd_same, hMV, (fun z => ?_), ?_, by omega, by omega, okm, ?_, fun kl H5 top ks s10 nkl hkl topr topb topm hk => ?_⟩
    · have : mvUp W T' (2 * (r : Int) + 1) (1, d1) ∈ mvs W T' (2 * (r : Int) + 1) us ds := List.mem_append_left _ (List.mem_map.mpr ⟨_, u1, rfl⟩)
      rw [z] at this
      cases this
    · show (us.map _ ++ ds.map _).length ≤ 100
      rw [List.length_append, List.length_map, List.length_map]
      omega
    · refine ⟨_, List.mem_append_left _ (List.mem_map.mpr ⟨_, u1, rfl⟩), ?_⟩
      have tt : T' * 1 ≤ d1 * W := (tight _ u1).1
      have t0 : 0 ≤ d1 * W - T' * 1 := by omega
      show 1 ≤ (d1 * W - T' * 1) * (2 * (r : Int) + 1) + 1
      have := Int.mul_nonneg t0 (show (0 : Int) ≤ 2 * (r : Int) + 1 by omega)
      omega
    have s11 := s9.trans s10
    have W0 : 0 < W := by have := nW.1; show 0 < W; exact this
    have ex2 := fun {p : Nat} (hp : p < 2 * r + 1) => near_exact W0 hk u1 u2 topr topm hp
    have dv : ∀ {i j : Int}, 0 < j → Num j → CDivW i j := fun h n => wide_div (b := 1000) h n (by decide) (by decide)
    have kb : ∀ (i : Nat) (x : Int), ks[i]? = some x → 0 ≤ x ∧ x ≤ 10 ^ 15 ∧ i < 2 * r + 1 := fun i x e => by
      have hi : i < 2 * r + 1 := by rw [← hk.len]; exact (List.getElem?_eq_some_iff.mp e).1
      obtain ⟨b, eb, lb, z⟩ := hk.val i hi
      rw [e] at eb
      cases eb
      refine ⟨?_, by omega, hi⟩
      by_cases c : x < top
      · exact (z c).1
      · omega
    wtm_at "ev_go"
    refine rd_lcQ ?_
    wtm_at "ev_go"
    refine rd_lcN2 (fun i x => (x / (2 * (r : Int) + 1) + T' * ((i : Int) - r)) / W) (SqL.of hkl) (by rw [hk.len]; omega) rfl (fun x y => rfl) (fun i x H' Q' hx _ fin => ?_) (fun l ys H6 s12 nl hl hlen hys => ?_)
    · obtain ⟨k0, k1, il⟩ := kb i x hx
      have nW2 : W ≤ 100 := nW.2.1
      have nT : T'.natAbs ≤ 10 ^ 6 := nW.2.2
      wtm_at "ev_go"
      try (refine rd_rI (dv (by omega) (num_of (by omega))) ?_; wtm_at "ev_go")
      try (refine rd_rI (Num.mul (num_of (by omega)) (num_of (by omega))) ?_; wtm_at "ev_go")
      try (refine rd_rI (dv (by omega) (num_of (by omega))) ?_; wtm_at "ev_go")
      exact fin
    · refine q r l H6 ys (s11.trans s12) (s11.free nl) hl (fun s h => wid s h) ⟨sm, hsm, hr0⟩ (hlen.trans hk.len) fun p hp => ?_
      obtain ⟨b, x, e1, e2, e3⟩ := ex2 hp
      exact ⟨x, by rw [hys p b e1, e2], e3⟩
end
end

section
theorem atI_nat0 {α : Type} {xs : List α} (h : 0 < xs.length) : atI xs 0 = xs[0]? := by
  rw [show (0 : Int) = ((0 : Nat) : Int) from rfl, atI_natR h]
section
variable {σ : L2.St} {H : Hp}
theorem rd_disp {trs : List (TE × TE)} {Q : VK} (h : ∀ p, H p = none → tPairs trs σ (upd H p (.dK [])) fun ps H2 => H2 p = some (.dK []) ∧ ∃ kvs : List (Key × V), ps = kvs.map (fun kv => (kV kv.1, kv.2)) ∧ kvs.length ≤ 15 ∧ Q (.ref p) (upd H2 p (.dK (mergeK [] kvs)))) : tDisp trs σ H Q := h
theorem rd_pairs {tk tv : TE} {r : List (TE × TE)} {Q : List (V × V) → Hp → Prop} (h : tk σ H fun x H1 => tv σ H1 fun y H2 => tPairs r σ H2 fun ps H3 => Q ((x, y) :: ps) H3) : tPairs ((tk, tv) :: r) σ H Q := h
theorem rd_pairsN {Q : List (V × V) → Hp → Prop} (h : Q [] H) : tPairs [] σ H Q := h
theorem rd_get2 {td ty tx : TE} {Q : VK} (h : td σ H fun x H1 => ∃ a, x = .ref a ∧ IsD H1 a ∧ ty σ H1 fun y H2 => tx σ H2 fun z H3 => ∃ o, DGet H3 a y o ∧ Q (o.getD z) H3) : tDGet2 td ty tx σ H Q := h
theorem rd_dput {td ty tv : TE} {D : Ends} (h : tv σ H fun v H1 => td σ H1 fun x H2 => ty σ H2 fun y H3 => ∃ a H4, x = .ref a ∧ DPut H3 a y v H4 ∧ D.nx σ H4) : sDPut td ty tv D σ H := h
theorem rd_items {te : TE} {Q : VK} (h : te σ H fun x H1 => LiI.rItemsL x H1 Q) : LiI.tListItems te σ H Q := h
end
local macro_rules | `(tactic| wtm_at "ev_step") => `(tactic| with_reducible first | refine rd_get2 ?_ | refine rd_items ?_ | refine rd_pairs ?_ | refine rd_pairsN ?_ | refine rd_dput ?_)
def spNeeded : Sp := fun vs H Q _ => ∃ (a : Addr) (L : List V) (ms : List (Int × Int)) (day back : Int), vs = [.ref a, .int back] ∧ H a = some (.lst L) ∧ MvL H L ms ∧ ms[0]? = some ((1 : Int), day) ∧ ms.length ≤ 100 ∧ (∀ m ∈ ms, 1 ≤ m.1 ∧ m.1 ≤ 100 ∧ m.2.natAbs ≤ 10 ^ 6) ∧ back.natAbs ≤ 10 ^ 6 ∧
  ∀ (l : Addr) (R : List V) (H' : Hp) (W T : Int) (ns : List (Int × Int)), Same H H' → H l = none → H' l = some (.lst R) → MvL H' R ns → Tight (W, T) ms → NI ms W T day back ms.length ns → Q (.ref l) H'
section
variable {P : Program} {w : World} {K : PySem.W.Frag} {mg : Str → Option Value} {base : Heap}
set_option maxHeartbeats 4000000 in
theorem ok_needed {f : Addr} {fd : FuncData} (F : Fun K "needed_steps" "needed_steps" s_needed_steps f fd) (T : Blt mg) (GT : CalN P w K mg base 1 "strictest" spStrictest) : FnOk P w K mg base CX0 2 f fd ["steps", "back"] spNeeded := by
  refine F.ok sc_needed_steps (fun vs H Q E h => ?_) (fun cdv A outer s H vs Q E hr h => ?_)
  · obtain ⟨a, L, ms, day, back, rfl, _⟩ := h
    rfl
  · obtain ⟨a, L, ms, day, back, rfl, ha, hM, h0, hml, nb, nback, q⟩ := h
    refine ⟨_, (pss_cons (ps_set (i := 2) sc_needed_steps.nd rfl (Or.inl rfl) (pe_ix ix_tup (pe_ix ix_list (pv 0) pe_int (fun _ _ => rfl)) pe_int (fun _ _ => rfl)))
      (pss_cons (ps_asg (pe_cN GT hr (by decide) (by rfl) (pa_cons (pv 0) pa_nil)) (pg_tup rfl (pgs_cons (pg_name (i := 3) sc_needed_steps.nd rfl (Or.inl rfl)) (pgs_cons (pg_name (i := 4) sc_needed_steps.nd rfl (Or.inl rfl)) pgs_nil))))
      (pss_cons (ps_set (i := 5) sc_needed_steps.nd rfl (Or.inl rfl) (pe_disp (pps_cons pe_int (pv 2) (pps_cons (pv 3) (pv 4) pps_nil)) (by rfl) (by rfl) (fun z => by cases z) (by decide)))
      (pss_cons (ps_for PassesOwn.never rfl (pi_list (pv 0)) (pg_tup rfl (pgs_cons (pg_name (i := 6) sc_needed_steps.nd rfl (Or.inl rfl)) (pgs_cons (pg_name (i := 7) sc_needed_steps.nd rfl (Or.inl rfl)) pgs_nil))) 
        (pss_cons (ps_asg (pe_callB call_divmod (by rfl) T.n_divmod (by decide +kernel) (pa_cons (pv 6) (pa_cons (pv 3) pa_nil))) (pg_tup rfl (pgs_cons (pg_name (i := 8) sc_needed_steps.nd rfl (Or.inl rfl)) (pgs_cons (pg_name (i := 9) sc_needed_steps.nd rfl (Or.inl rfl)) pgs_nil))))
        (pss_cons (ps_set (i := 10) sc_needed_steps.nd rfl (Or.inl rfl) (pe_callB (call_min2 rfl) (by rfl) T.n_min boot_min (pa_cons (pe_op op_add (pe_op op_mulW (pv 8) (pv 4)) (pe_op op_mulW (pv 9) (pv 2))) (pa_cons (pe_op op_add (pe_op op_mulW (pe_op op_add (pv 8) pe_int) (pv 4)) (pe_op op_mulW (pe_op op_sub (pv 3) (pv 9)) (pv 1))) pa_nil))))
        (pss_one (ps_if (pt_cmpR op_lt (pv 7) (pe_dget2 (Nat.lt_of_le_of_lt (Nat.add_le_add_left (show 1 ≤ 64 by decide) _) (hun64 hr)) (pv 5) (pv 6) (pv 10) ⟨by rfl, by rfl, by rfl, by rfl⟩) (nomark _)) 
          (pss_one (ps_dput (Nat.lt_of_le_of_lt (Nat.add_le_add_left (show 1 ≤ 64 by decide) _) (hun64 hr)) (pv 5) (pv 6) (pv 7) rfl)) pss_nil)))))
      (pss_one (ps_ret (LiI.pe_listItems rfl (pv 5) (by rfl) T.n_list boot_list))))))), ?_⟩
    have l0 : 0 < L.length := by rw [hM.1]; exact (List.getElem?_eq_some_iff.mp h0).1
    obtain ⟨a0, r0, e0, e1, e2⟩ := hM.2 0 L[0] (List.getElem?_eq_getElem l0)
    rw [h0] at e1
    cases e1
    have day_in := List.mem_of_getElem? h0
    have nday := nb _ day_in
    wtm_at "ev_go"
    refine rd_ixL (SqL.of ha) (v := .ref a0) (by rw [atI_nat0 l0, List.getElem?_eq_getElem l0, e0]) ?_
    wtm_at "ev_go"
    refine ⟨a, L, ms, rfl, ha, hM, (fun z => by rw [z] at h0; cases h0), (fun m h => by have := nb m h; omega), fun wt p hp bm tight => ?_⟩
    obtain ⟨W, T'⟩ := wt
    have s1 := Same.new (o := .tup [V.int W, .int T']) hp
    have nW : 1 ≤ W ∧ W ≤ 100 ∧ T'.natAbs ≤ 10 ^ 6 := nb _ bm
    have tt : ∀ m ∈ ms, T' * m.1 ≤ m.2 * W := fun m h => (tight m h).1
    wtm_at "ev_go"
    refine rd_disp (fun d hd => ?_)
    have hdN : H d = none := s1.free hd
    have s2 : Same H (upd (upd H p (.tup [V.int W, .int T'])) d (.dK ((putN [(1, day)] W T').map kvOf))) := s1.trans (Same.new hd)
    wtm_at "ev_go"
    refine ⟨upd_same, [kvOf (1, day), kvOf (W, T')], rfl, by show 2 ≤ 15; decide, ?_⟩
    rw [show mergeK [] [kvOf (1, day), kvOf (W, T')] = putK ([((1 : Int), day)].map kvOf) (Sum.inl W) (V.int T') from rfl, put_kv]
    have hd2 : upd (upd H p (.tup [V.int W, .int T'])) d (.dK ((putN [(1, day)] W T').map kvOf)) d = some (.dK ((putN [(1, day)] W T').map kvOf)) := upd_same
    generalize upd (upd H p (.tup [V.int W, .int T'])) d (.dK ((putN [(1, day)] W T').map kvOf)) = H2 at s2 hd2 ⊢
    have ni0 := NI.init (back := back) day_in bm (by omega) (tt _ day_in)
    generalize putN [(1, day)] W T' = ns0 at hd2 ni0
    wtm_at "ev_go"
    refine rd_forL (xs := L) (fun i σ' H' => ∃ (x6 x7 x8 x9 x10 : Option V) (ns : List (Int × Int)), σ' = [some (.ref a), some (.int back), some (.int day), some (.int W), some (.int T'), some (.ref d), x6, x7, x8, x9, x10] ∧ Same H H' ∧ H' d = some (.dK (ns.map kvOf)) ∧ NI ms W T' day back i ns) ⟨_, _, _, _, _, _, rfl, s2, hd2, ni0⟩
      (fun i σ' H' _ h => by obtain ⟨_, _, _, _, _, _, _, z, _⟩ := h; exact SqL.of (z _ _ ha)) ?_ ?_
    · rintro i v σ' H3 hx ⟨x6, x7, x8, x9, x10, ns, rfl, s3, hd3, ni⟩
      obtain ⟨bb, m, rfl, hm, hbb⟩ := (hM.mono s3).2 i v hx
      have mm := List.mem_of_getElem? hm
      have nm := nb m mm
      obtain ⟨w, t⟩ := m
      have nm' : 1 ≤ w ∧ w ≤ 100 ∧ t.natAbs ≤ 10 ^ 6 := nm
      have il := (List.getElem?_eq_some_iff.mp hm).1
      have d0 : 0 ≤ w / W := Int.ediv_nonneg (by omega) (by omega)
      have d1 : w / W ≤ w := Int.ediv_le_self _ (by omega)
      have r0 : 0 ≤ w % W := Int.emod_nonneg _ (by omega)
      have r1 : w % W < W := Int.emod_lt_of_pos _ (by omega)
      have nd' : day.natAbs ≤ 10 ^ 6 := nday.2.2
      wtm_at "ev_go"
      refine ⟨⟨by omega, by omega⟩, fun p2 hp2 => ?_⟩
      have s4 := s3.trans (Same.new (o := .tup [V.int (w / W), .int (w % W)]) hp2)
      have hd4 := lk_ne (o := .tup [V.int (w / W), .int (w % W)]) (ne_of_none hd3 hp2) hd3
      wtm_at "ev_go"
      generalize upd H3 p2 (.tup [V.int (w / W), .int (w % W)]) = H4 at s4 hd4 ⊢
      refine rd_rI (Num.mul (num_of (by omega)) (num_of (by omega))) ?_
      wtm_at "ev_go"
      refine rd_rI (Num.mul (num_of (by omega)) (num_of (by omega))) ?_
      wtm_at "ev_go"
      refine rd_rI (Num.mul (num_of (by omega)) (num_of (by omega))) ?_
      wtm_at "ev_go"
      refine rd_rI (Num.mul (num_of (by omega)) (num_of (by omega))) ?_
      wtm_at "ev_go"
      rw [show (if (w / W + 1) * T' + (W - w % W) * back < w / W * T' + w % W * day then (w / W + 1) * T' + (W - w % W) * back else w / W * T' + w % W * day) = toldOf W T' day back w from rfl]
      generalize htold : toldOf W T' day back w = told
      wtm_at "ev_go"
      refine ⟨d, rfl, .inl ⟨_, .inl hd4⟩, ?_⟩
      wtm_at "ev_go"
      refine ⟨valV (ns.map kvOf) (Sum.inl w), DGet.k (k := Sum.inl w) hd4, ?_⟩
      have cases_v : ∃ v : Int, (valV (ns.map kvOf) (Sum.inl w)).getD (.int told) = .int v ∧ (t < v → ∀ n ∈ ns, n.1 = w → t < n.2) ∧ (¬ t < v → (∃ n ∈ ns, n.1 = w ∧ n.2 ≤ t) ∨ told ≤ t) := by
        rcases val_kv (ns := ns) (w := w) with ⟨e, no⟩ | ⟨n, hn, n1, e⟩
        · rw [e]
          exact ⟨told, rfl, fun _ n hn z => absurd z (no n hn), fun z => .inr (by omega)⟩
        · rw [e]
          refine ⟨n.2, rfl, fun l n' hn' z => ?_, fun z => .inl ⟨n, hn, n1, by omega⟩⟩
          rw [ni.u n' hn' n hn (z.trans n1.symm)]
          exact l
      obtain ⟨v, ev, cl, cn⟩ := cases_v
      rw [ev]
      wtm_at "ev_go"
      refine rd_ite (fun lt => ?_) (fun nlt => ?_)
      · wtm_at "ev_go"
        have ln := ni.l
        refine ⟨d, _, rfl, DPut.k (k := Sum.inl w) hd4 (by rw [List.length_map, sizeLine_eq]; omega), ?_⟩
        rw [put_kv]
        refine ⟨_, _, _, _, _, _, rfl, fun c o z => ?_, upd_same, ni.put hm (by omega) (tt _ mm) (cl lt)⟩
        rw [upd_ne (ne_of_none z hdN)]
        exact s4 _ _ z
      · wtm_at "ev_go"
        exact ⟨_, _, _, _, _, ns, rfl, s4, hd4, ni.skip hm ((cn nlt).imp id fun z => by rw [htold]; exact z)⟩
    · rintro σ' H3 ⟨x6, x7, x8, x9, x10, ns, rfl, s3, hd3, ni⟩
      wtm_at "ev_go"
      refine ⟨d, ns.map kvOf, rfl, hd3, fun H' l ts sm hl hts hln hlt hpair => ?_⟩
      rw [hM.1] at ni
      refine q l (ts.map V.ref) H' W T' ns (fun b o z => sm b o (s3 b o z)) (s3.free hl) hlt ⟨?_, fun k v e => ?_⟩ tight ni
      · have := hpair.length
        rw [List.length_map] at this ⊢
        exact this
      · rw [List.getElem?_map] at e
        cases et : ts[k]? with
        | none => rw [et] at e; cases e
        | some x =>
          rw [et] at e
          cases e
          obtain ⟨y, h1, h2⟩ := LiI.paired_get hpair et
          rw [List.getElem?_map] at h1
          cases en : ns[k]? with
          | none => rw [en] at h1; cases h1
          | some n =>
            rw [en] at h1
            cases h1
            exact ⟨x, n, rfl, rfl, h2⟩
end
end

section
def gt (ts : List Int) (i : Nat) : Int := ts.getD i 0
theorem gt_at {ts : List Int} {i : Nat} (h : i < ts.length) : ts[i]? = some (gt ts i) := by
  unfold gt
  rw [List.getD_eq_getElem?_getD, List.getElem?_eq_getElem h]
  rfl
theorem gt_set {ts : List Int} {i j : Nat} {v : Int} (h : i < ts.length) : gt (ts.set i v) j = if j = i then v else gt ts j := by
  unfold gt
  rw [List.getD_eq_getElem?_getD, List.getD_eq_getElem?_getD]
  by_cases c : j = i
  · subst c
    rw [if_pos rfl, List.getElem?_set_self h]
    rfl
  · rw [if_neg c, List.getElem?_set_ne (Ne.symm c)]
theorem rd_gcd {a b : Int} {H : Hp} {Q : VK} (q : Q (.int ((Nat.gcd a.natAbs b.natAbs : Nat) : Int)) H) : L2.rGcd [.int a, .int b] H Q := ⟨a, b, rfl, q⟩
def spSpread : Sp := fun vs H Q _ => ∃ (a : Addr) (w : Nat) (m : Int) (ts : List Int), vs = [.ref a, .int w, .int m] ∧ H a = some (.lst (ts.map V.int)) ∧ 0 < ts.length ∧ ts.length ≤ 1000 ∧ 0 ≤ m ∧
  ∀ ts' : List Int, ts'.length = ts.length → Spr ts.length w m (gt ts) (gt ts') → Q .non (upd H a (.lst (ts'.map V.int)))
section
variable {P : Program} {w : World} {K : PySem.W.Frag} {mg : Str → Option Value} {base : Heap}
set_option maxHeartbeats 4000000 in
theorem ok_spread {f : Addr} {fd : FuncData} (F : Fun K "spread" "spread" s_spread f fd) (T : Blt mg) (S : TxH mg) : FnOk P w K mg base CX0 1 f fd ["table", "width", "more"] spSpread := by
  refine F.ok sc_spread (fun vs H Q E h => ?_) (fun cdv A outer s H vs Q E hr h => ?_)
  · obtain ⟨a, w, m, ts, rfl, _⟩ := h
    rfl
  · obtain ⟨a, wd, m, ts, rfl, ha, l0, l1, m0, q⟩ := h
    refine ⟨_, (pss_cons (ps_set (i := 3) sc_spread.nd rfl (Or.inl rfl) (pe_callB call_len_seq (by rfl) T.n_len PySem.boot_len (pa_cons (pv 0) pa_nil)))
      (pss_cons (ps_set (i := 4) sc_spread.nd rfl (Or.inl rfl) (pe_op op_mod (pv 1) (pv 3)))
      (pss_cons (ps_set (i := 5) sc_spread.nd rfl (Or.inl rfl) (pe_callBfun L2.cr_gcd (by rfl) S.gcd (pa_cons (pv 4) (pa_cons (pv 3) pa_nil))))
      (pss_one (ps_for PassesOwn.never rfl (pi_range1 (by rfl) T.n_range (pa_cons (pv 5) pa_nil)) (pg_name (i := 6) sc_spread.nd rfl (Or.inl rfl)) 
        (pss_cons (ps_set (i := 7) sc_spread.nd rfl (Or.inl rfl) (pv 6))
        (pss_cons (ps_set (i := 8) sc_spread.nd rfl (Or.inl rfl) (pe_ix ix_list (pv 0) (pv 7) (fun _ _ => rfl)))
        (pss_one (ps_for PassesOwn.never rfl (pi_range1 (by rfl) T.n_range (pa_cons (pe_op op_sub (pe_op op_mulW pe_int (pe_op op_fdivW (pv 3) (pv 5))) pe_int) pa_nil)) (pg_name (i := 9) sc_spread.nd rfl (Or.inl rfl)) 
          (pss_cons (ps_set (i := 7) sc_spread.nd rfl (Or.inl rfl) (pe_op op_mod (pe_op op_add (pv 7) (pv 4)) (pv 3)))
          (pss_cons (ps_set (i := 8) sc_spread.nd rfl (Or.inl rfl) (pe_callB (call_min2 rfl) (by rfl) T.n_min boot_min (pa_cons (pe_op op_add (pv 8) (pv 2)) (pa_cons (pe_ix ix_list (pv 0) (pv 7) (fun _ _ => rfl)) pa_nil))))
          (pss_one (ps_asg (pv 8) (pg_sub (pv 0) (pv 7) set_list)))))))))))))), ?_⟩
    have eH : H = upd H a (.lst (ts.map V.int)) := by
      funext b
      by_cases c : b = a
      · rw [c, upd_same, ha]
      · rw [upd_ne c]
    wtm_at "ev_go"
    rw [List.length_map]
    generalize hW : ts.length = W at l0 l1 q
    have em : (wd : Int) % (W : Int) = ((wd % W : Nat) : Int) := (Int.natCast_emod _ _).symm
    refine rd_rI (show (0 : Int) < W by omega) ?_
    rw [em]
    wtm_at "ev_go"
    refine rd_gcd ?_
    have eg : (((wd % W : Nat) : Int).natAbs.gcd (W : Int).natAbs : Nat) = Nat.gcd (wd % W) W := by rw [Int.natAbs_natCast, Int.natAbs_natCast]
    rw [eg]
    have g0 : 0 < Nat.gcd (wd % W) W := Nat.gcd_pos_of_pos_right _ l0
    have gW : Nat.gcd (wd % W) W ≤ W := Nat.le_of_dvd l0 (Nat.gcd_dvd_right _ _)
    have hc0 : 0 < W / Nat.gcd (wd % W) W := circ_pos l0
    have hcW : W / Nat.gcd (wd % W) W ≤ W := Nat.div_le_self _ _
    generalize hs : wd % W = sh at em eg g0 gW hc0 hcW ⊢
    have hshW : sh < W := by rw [← hs]; exact Nat.mod_lt _ l0
    generalize hg : Nat.gcd sh W = g at eg g0 gW hc0 hcW ⊢
    wtm_at "ev_go"
    rw [Int.toNat_natCast]
    refine rd_forR (n := g) (lo := 0) (fun i σ' H' => ∃ (x6 x7 x8 x9 : Option V) (t : List Int), σ' = [some (.ref a), some (.int wd), some (.int m), some (.int W), some (.int sh), some (.int g), x6, x7, x8, x9] ∧ H' = upd H a (.lst (t.map V.int)) ∧ t.length = W ∧ Sp1 W sh m (gt ts) i (gt t)) ⟨_, _, _, _, ts, rfl, eH, hW, Sp1.init⟩ ?_ ?_
    · rintro i σ' H' hi ⟨x6, x7, x8, x9, t, rfl, rfl, lt, sp⟩
      rw [Int.zero_add]
      have hig : i < Nat.gcd sh W := by rw [hg]; exact hi
      wtm_at "ev_go"
      refine rd_ixL (SqL.of upd_same) (v := .int (gt t i)) (by rw [atI_natR (by rw [List.length_map]; omega), List.getElem?_map, gt_at (by omega)]; rfl) ?_
      wtm_at "ev_go"
      have ed : (W : Int) / (g : Int) = ((W / g : Nat) : Int) := (Int.natCast_ediv W g).symm
      rw [ed]
      generalize hc : W / g = c at hc0 hcW ⊢
      have hcg : W / Nat.gcd sh W = c := by rw [hg, hc]
      refine rd_rI (Num.mul (num_of (by decide)) (num_of (by omega))) ?_
      wtm_at "ev_go"
      have ec : (2 * (c : Int) - 2).toNat = 2 * c - 2 := by omega
      rw [ec]
      have b0 := sp.start l0 hig
      have k0 : (i + 0 * sh) % W = i := by rw [Nat.zero_mul, Nat.add_zero]; exact Nat.mod_eq_of_lt (by omega)
      refine rd_forR (n := 2 * c - 2) (lo := 0) (fun j σ' H' => ∃ (x9 : Option V) (t2 : List Int) (e : Nat → Int), σ' = [some (.ref a), some (.int wd), some (.int m), some (.int W), some (.int sh), some (.int g), some (.int i), some (.int (((i + j * sh) % W : Nat) : Int)), some (.int (e j)), x9] ∧ H' = upd H a (.lst (t2.map V.int)) ∧ t2.length = W ∧ Sp2 W sh m (gt ts) i j e (gt t) (gt t2)) ⟨_, t, fun _ => gt t i, by rw [k0], rfl, lt, b0⟩ ?_ ?_
      · rintro j σ' H' hj ⟨x9, t2, e, rfl, rfl, lt2, sp2⟩
        have hj' : j + 1 ≤ 2 * (W / Nat.gcd sh W) - 2 := by rw [hcg]; omega
        wtm_at "ev_go"
        have ea : ((((i + j * sh) % W : Nat) : Int) + (sh : Int)) % (W : Int) = (((i + (j + 1) * sh) % W : Nat) : Int) := by
          rw [← Int.natCast_add, ← Int.natCast_emod, Nat.mod_add_mod, Nat.succ_mul, Nat.add_assoc]
        rw [ea]
        have hp : (i + (j + 1) * sh) % W < W := Nat.mod_lt _ l0
        generalize hpe : (i + (j + 1) * sh) % W = p at hp ⊢
        wtm_at "ev_go"
        refine rd_ixL (SqL.of upd_same) (v := .int (gt t2 p)) (by rw [atI_natR (by rw [List.length_map]; omega), List.getElem?_map, gt_at (by omega)]; rfl) ?_
        wtm_at "ev_go"
        generalize hv : (if gt t2 p < e j + m then gt t2 p else e j + m) = v
        have hv' : (v = e j + m ∧ e j + m ≤ gt t2 p) ∨ (v = gt t2 p ∧ gt t2 p ≤ e j + m) := by
          by_cases cc : gt t2 p < e j + m
          · rw [if_pos cc] at hv
            exact .inr ⟨hv.symm, by omega⟩
          · rw [if_neg cc] at hv
            exact .inl ⟨hv.symm, by omega⟩
        wtm_at "ev_go"
        refine rd_setL (k := p) upd_same (by unfold ixN; rw [if_pos (by omega), if_pos (by rw [List.length_map]; omega), Int.toNat_natCast]) ?_
        rw [show (t2.map V.int).set p (V.int v) = (t2.set p v).map V.int by rw [List.map_set]]
        wtm_at "ev_go"
        rw [← hpe] at hv'
        have ee : ext_ e (j + 1) v (j + 1) = v := by
          unfold ext_
          rw [if_pos rfl]
        refine ⟨some (.int (0 + (j : Int))), t2.set p v, ext_ e (j + 1) v, by rw [ee], rfl, by rw [List.length_set]; exact lt2, sp2.step l0 hig hj' hv' ?_ ?_⟩
        · rw [hpe, gt_set (by omega), if_pos rfl]
        · intro ρ hρ ne
          rw [hpe] at ne
          rw [gt_set (by omega), if_neg ne]
      · rintro σ' H' ⟨x9, t2, e, rfl, rfl, lt2, sp2⟩
        rw [← hcg] at sp2
        exact ⟨_, _, _, _, t2, rfl, rfl, lt2, sp2.done l0 hig sp⟩
    · rintro σ' H' ⟨x6, x7, x8, x9, t, rfl, rfl, lt, sp⟩
      rw [← hg, ← hs] at sp
      exact q t lt (sp.spr l0 m0)
end
end

section
/-! ### the sides -/
structure TxS (K : PySem.W.Frag) (cS : Addr) : Prop where
  cls : Cls K cS
  n1 : NoAttr K cS "_near"
  n2 : NoAttr K cS "_reach"
  n3 : NoAttr K cS "_steps"
  n4 : NoAttr K cS "_width"
  n5 : NoAttr K cS "_worth"
  n6 : NoAttr K cS "_far"
  n7 : NoAttr K cS "_since"
def sideField (m : Str) : Bool := m == ("_near" : Str) || m == ("_reach" : Str) || m == ("_steps" : Str) || m == ("_width" : Str) || m == ("_worth" : Str) || m == ("_far" : Str) || m == ("_since" : Str)
theorem atI_int {xs : List Int} {i : Int} (h0 : 0 ≤ i) (h : i.toNat < xs.length) : atI (xs.map V.int) i = some (V.int (gt xs i.toNat)) := by
  obtain ⟨k, rfl⟩ : ∃ k : Nat, i = k := ⟨i.toNat, by omega⟩
  rw [Int.toNat_natCast] at h ⊢
  rw [atI_natR (by rw [List.length_map]; exact h), List.getElem?_map, gt_at h]
  rfl
section
variable {K : PySem.W.Frag} {σ : L2.St} {H : Hp}
theorem rd_gfld {ta : TE} {f : Str} {y : V} {Q : L2.St → Hp → Prop} (h : ta σ H fun x H1 => ∃ a C dx fs, x = .ref a ∧ H1 a = some (.ins C dx fs) ∧ Cls K C ∧ NoAttr K C f ∧ fs.length < 1000 ∧ Q σ (upd H1 a (.ins C dx (putF f y fs)))) : gFld K ta f y σ H Q := h
end
local macro_rules | `(tactic| wtm_at "ev_step") => `(tactic| with_reducible refine rd_gfld ?_)
def endP (W n : Nat) (s : Int × Int) : Bool := decide (s.1 * (W : Int) > n) || decide (s.1 = W)
/-- the far sums as they are kept -/
def FarF (H : Hp) (ow : Addr → Prop) (ln : Addr) (vf vn : V) : Option (List Int × List Int) → Prop
  | none => vf = .non ∧ vn = .non
  | some (fr, sn) => ∃ lf lsn : Addr, vf = .ref lf ∧ vn = .ref lsn ∧ ow lf ∧ ow lsn ∧ lf ≠ ln ∧ lsn ≠ ln ∧ H lf = some (.lst (fr.map V.int)) ∧ H lsn = some (.lst (sn.map V.int))
/-- a side at a: what its fields hold; ow: what it owns -/
def SideF (C : Addr) (H : Hp) (a : Addr) (ow : Addr → Prop) (xs : List Int) (vs : List (Int × Int)) (r W : Nat) (T : Int) (far : Option (List Int × List Int)) : Prop :=
  ∃ (dx ln ls : Addr) (fs : List (Str × V)) (L : List V) (vf vn : V), H a = some (.ins C dx fs) ∧ ow a ∧ ow ln ∧ ow ls ∧ ln ≠ ls ∧ H ln = some (.lst (xs.map V.int)) ∧ H ls = some (.lst L) ∧ MvL H L vs ∧ FarF H ow ln vf vn far ∧ (∀ c, ow c → H c ≠ none) ∧ fs.length < 900 ∧
    fs.lookup ("_near" : Str) = some (.ref ln) ∧ fs.lookup ("_reach" : Str) = some (.int r) ∧ fs.lookup ("_steps" : Str) = some (.ref ls) ∧ fs.lookup ("_width" : Str) = some (.int W) ∧ fs.lookup ("_worth" : Str) = some (.int T) ∧ fs.lookup ("_far" : Str) = some vf ∧ fs.lookup ("_since" : Str) = some vn ∧ ∀ m : Str, sideField m = false → fs.lookup m = none
/-- all but what is owned stays as it is; tuples do; what is there stays there -/
def FrO (ow : Addr → Prop) (H H' : Hp) : Prop := (∀ c o, H c = some o → (¬ ow c ∨ ∃ xs, o = .tup xs) → H' c = some o) ∧ ∀ c, H c ≠ none → H' c ≠ none
theorem FrO.of {ow : Addr → Prop} {H H' : Hp} (h : Same H H') : FrO ow H H' := ⟨fun c o e _ => h _ _ e, fun c e => by
  cases z : H c with
  | none => exact absurd z e
  | some o => rw [h _ _ z]; intro w; cases w⟩
theorem FrO.trans {o1 o2 : Addr → Prop} {H H1 H2 : Hp} (h : FrO o1 H H1) (g : FrO o2 H1 H2) (s : ∀ c, o2 c → o1 c ∨ H c = none) : FrO o1 H H2 := by
  refine ⟨fun c o e w => g.1 c o (h.1 c o e w) ?_, fun c e => g.2 c (h.2 c e)⟩
  rcases w with w | w
  · left
    intro z
    rcases s c z with z | z
    · exact w z
    · rw [z] at e
      cases e
  · exact .inr w
theorem FrO.put {ow : Addr → Prop} {H H' : Hp} {a : Addr} {o : HO} (h : FrO ow H H') (ha : ow a ∨ H a = none) (hnt : ∀ xs, H' a ≠ some (.tup xs)) : FrO ow H (upd H' a o) := by
  refine ⟨fun c q e w => ?_, fun c e => ?_⟩
  · have e' := h.1 c q e w
    by_cases z : c = a
    · subst z
      rcases w with w | ⟨xs, rfl⟩
      · rcases ha with ha | ha
        · exact absurd ha w
        · rw [ha] at e
          cases e
      · exact absurd e' (hnt xs)
    · rw [upd_ne z]
      exact e'
  · by_cases z : c = a
    · subst z
      rw [upd_same]
      intro w
      cases w
    · rw [upd_ne z]
      exact h.2 c e
theorem len_putS {f : Str} {v u : V} : ∀ {fs : List (Str × V)}, fs.lookup f = some u → (putF f v fs).length = fs.length
  | [], h => by cases h
  | (g, x) :: r, h => by
    show (if g = f then (g, v) :: r else (g, x) :: putF f v r).length = _
    by_cases e : g = f
    · rw [if_pos e, List.length_cons, List.length_cons]
    · rw [if_neg e, List.length_cons, List.length_cons]
      rw [List.lookup_cons] at h
      have : (f == g) = false := beq_eq_false_iff_ne.mpr (Ne.symm e)
      rw [this] at h
      rw [len_putS h]
theorem fields_none {a b c d e f g : V} {m : Str} (h : sideField m = false) : (putF "_since" g (putF "_far" f (putF "_worth" e (putF "_width" d (putF "_steps" c (putF "_reach" b (putF "_near" a []))))))).lookup m = none := by
  unfold sideField at h
  simp only [Bool.or_eq_false_iff, beq_eq_false_iff_ne] at h
  obtain ⟨⟨⟨⟨⟨⟨h1, h2⟩, h3⟩, h4⟩, h5⟩, h6⟩, h7⟩ := h
  rw [lk_put h7, lk_put h6, lk_put h5, lk_put h4, lk_put h3, lk_put h2, lk_put h1]
  rfl

def spSide (cS : Addr) : Sp := fun vs H Q _ => ∃ (a dx ln ls : Addr) (xs : List Int) (L : List V) (ms : List (Int × Int)) (r : Nat), vs = [.ref a, .ref ln, .ref ls] ∧ H a = some (.ins cS dx []) ∧ H ln = some (.lst (xs.map V.int)) ∧ H ls = some (.lst L) ∧ MvL H L ms ∧ xs.length = r + 1 ∧ r ≤ 100 ∧ ms.length ≤ 40 ∧ (∀ m ∈ ms, 1 ≤ m.1 ∧ m.1 ≤ r ∧ m.2.natAbs ≤ 10 ^ 6) ∧ (∃ m ∈ ms, xs[m.1.toNat]? = some m.2) ∧
  ∀ (H' : Hp) (ow : Addr → Prop) (W : Nat) (T : Int), Fr a H H' → (∀ c, ow c → c = a ∨ c = ln ∨ H c = none) → Tight ((W : Int), T) (ms.filter fun m => decide (xs[m.1.toNat]? = some m.2)) → ((W : Int), T) ∈ (ms.filter fun m => decide (xs[m.1.toNat]? = some m.2)) →
    SideF cS H' a ow xs (ms.filter fun m => decide (xs[m.1.toNat]? = some m.2)) r W T none → Q .non H'
section
variable {P : Program} {w : World} {K : PySem.W.Frag} {mg : Str → Option Value} {base : Heap} {cS : Addr}
set_option maxHeartbeats 4000000 in
theorem ok_sinit {f : Addr} {fd : FuncData} (F : Fun K "__init__" "Side.__init__" s_Side_init f fd) (T : Blt mg) (S : TxS K cS) (GT : CalN P w K mg base 1 "strictest" spStrictest) : FnOk P w K mg base CX0 2 f fd ["self", "near", "steps"] (spSide cS) := by
  refine F.ok sc_Side_init (fun vs H Q E h => ?_) (fun cdv A outer s H vs Q E hr h => ?_)
  · obtain ⟨a, dx, ln, ls, xs, L, ms, r, rfl, _⟩ := h
    rfl
  · obtain ⟨a, dx, ln, ls, xs, L, ms, r, rfl, ha, hn, hl, hM, lx, lr, lm, nm, ex, q⟩ := h
    refine ⟨_, (pss_cons (ps_fld (pv 0) (pv 1) rfl)
      (pss_cons (ps_fld (pv 0) (pe_op op_sub (pe_callB call_len_seq (by rfl) T.n_len PySem.boot_len (pa_cons (pv 1) pa_nil)) pe_int) rfl)
      (pss_cons (ps_fld (pv 0) (pe_lc (own := [("width", 3), ("worth", 4)]) (g := gTup K 2 (gCons (gName 3) (gCons (gName 4) gNil))) (tt := _) rfl sc_Side_init.nd (pi_list (pv 2)) (blkOk_by (N := ["self", "near", "steps", "width", "worth"]) (sc := defScope s_Side_init) (by decide +kernel)) (fun _ _ _ _ _ => pg_tup rfl (pgs_cons (pg_name (i := 3) sc_Side_init.nd rfl (Or.inl rfl)) (pgs_cons (pg_name (i := 4) sc_Side_init.nd rfl (Or.inl rfl)) pgs_nil))) (fun _ _ _ _ _ => (pts_one (pt_cmpR op_eq (pe_ix (show IxR _ (rIxL K) from ix_list) (pv 1) (pv 3) (fun _ _ => rfl)) (pv 4) (nomark _)))) (fun _ _ _ _ _ => (pe_tup (pa_cons (pv 3) (pa_cons (pv 4) pa_nil))))) rfl)
      (pss_cons (ps_asg (pe_cN GT hr (by decide) (by rfl) (pa_cons (pe_fld (pv 0) rfl) pa_nil)) (pg_tup rfl (pgs_cons (pg_fld (pv 0)) (pgs_cons (pg_fld (pv 0)) pgs_nil))))
      (pss_cons (ps_fld (pv 0) pe_non rfl)
      (pss_one (ps_fld (pv 0) pe_non rfl))))))), ?_⟩
    have nna : ln ≠ a := ne_of hn ha (fun z => by cases z)
    have nlsa : ls ≠ a := ne_of hl ha (fun z => by cases z)
    wtm_at "ev_go"
    refine rd_sfldA ha S.cls S.n1 (by decide) ?_
    wtm_at "ev_go"
    rw [List.length_map, lx, show ((r + 1 : Nat) : Int) - 1 = r by omega]
    refine rd_sfldA upd_same S.cls S.n2 (Nat.lt_of_le_of_lt (len_put _) (by decide)) ?_
    wtm_at "ev_go"
    have keepT : ∀ {H' : Hp} {o : HO}, H' a = some (.ins cS dx []) → MvL H' L ms → MvL (upd H' a o) L ms := fun {H' o} h m => ⟨m.1, fun i v e => by
      obtain ⟨b, q, h1, h2, h3⟩ := m.2 i v e
      exact ⟨b, q, h1, h2, lk_ne (ne_of h3 h (fun z => by cases z)) h3⟩⟩
    have hM1 : MvL (upd H a (.ins cS dx (putF "_reach" (.int r) (putF "_near" (.ref ln) [])))) L ms := keepT ha hM
    have hn1 : upd H a (.ins cS dx (putF "_reach" (.int r) (putF "_near" (.ref ln) []))) ln = some (.lst (xs.map V.int)) := lk_ne nna hn
    have hl1 : upd H a (.ins cS dx (putF "_reach" (.int r) (putF "_near" (.ref ln) []))) ls = some (.lst L) := lk_ne nlsa hl
    refine rd_lcF (fun m => decide (xs[m.1.toNat]? = some m.2)) (SqL.of hl1) hM1 (by have := hM1.1; omega) rfl (fun x y => rfl) (fun m H' Q' hm sm fin => ?_) (fun m H' Q' hm pm sm fin => ?_) (fun l R H' sm hl2 hR hMR => ?_)
    · have b := nm m hm
      wtm_at "ev_go"
      have il : m.1.toNat < xs.length := by omega
      refine rd_ixL (SqL.of (sm _ _ hn1)) (atI_int (by omega) il) ?_
      wtm_at "ev_go"
      have e : decide (V.int (gt xs m.1.toNat) = V.int m.2) = decide (xs[m.1.toNat]? = some m.2) := by
        rw [gt_at il]
        exact decide_eq_decide.mpr ⟨fun z => by injection z with z; rw [z], fun z => by injection z with z; rw [z]⟩
      rw [e]
      exact fin
    · wtm_at "ev_go"
      exact fin
    · have smT := sm
      generalize hvs : (ms.filter fun m => decide (xs[m.1.toNat]? = some m.2)) = vs at q hMR
      have hvm : ∀ m ∈ vs, m ∈ ms := fun m h => by rw [← hvs] at h; exact (List.mem_filter.mp h).1
      have hne : vs ≠ [] := fun z => by
        obtain ⟨m, hm, em⟩ := ex
        have : m ∈ vs := by rw [← hvs]; exact List.mem_filter.mpr ⟨hm, decide_eq_true em⟩
        rw [z] at this
        cases this
      have ha2 := sm _ _ (upd_same (H := H) (a := a) (o := .ins cS dx (putF "_reach" (.int r) (putF "_near" (.ref ln) []))))
      have hn2 := sm _ _ hn1
      wtm_at "ev_go"
      refine rd_sfldA ha2 S.cls S.n3 (Nat.lt_of_le_of_lt (len_put' (len_put' len_nil)) (by decide)) ?_
      wtm_at "ev_go"
      have nal : a ≠ l := ne_of_none (upd_same (H := H) (a := a) (o := .ins cS dx (putF "_reach" (.int r) (putF "_near" (.ref ln) [])))) hl2
      have hlN : H l = none := by
        rw [upd_ne (Ne.symm nal)] at hl2
        exact hl2
      have hl3 : upd H' a (.ins cS dx (putF "_steps" (.ref l) (putF "_reach" (.int r) (putF "_near" (.ref ln) [])))) l = some (.lst R) := lk_ne (Ne.symm nal) hR
      have hM3 : MvL (upd H' a (.ins cS dx (putF "_steps" (.ref l) (putF "_reach" (.int r) (putF "_near" (.ref ln) []))))) R vs := ⟨hMR.1, fun i v e => by
        obtain ⟨b, q, h1, h2, h3⟩ := hMR.2 i v e
        exact ⟨b, q, h1, h2, lk_ne (ne_of h3 ha2 (fun z => by cases z)) h3⟩⟩
      refine rd_fldA upd_same S.cls S.n3 lk_put0 ?_
      wtm_at "ev_go"
      refine ⟨l, R, vs, rfl, hl3, hM3, hne, fun m hm => ?_, fun b p hp bm tight => ?_⟩
      · have := nm m (hvm m hm)
        omega
      have nap : a ≠ p := ne_of_none upd_same hp
      wtm_at "ev_go"
      have ha4 : upd (upd H' a (.ins cS dx (putF "_steps" (.ref l) (putF "_reach" (.int r) (putF "_near" (.ref ln) []))))) p (.tup [.int b.1, .int b.2]) a = some (.ins cS dx (putF "_steps" (.ref l) (putF "_reach" (.int r) (putF "_near" (.ref ln) [])))) := lk_ne nap upd_same
      refine rd_sfldA ha4 S.cls S.n4 (Nat.lt_of_le_of_lt (len_put' (len_put' (len_put' len_nil))) (by decide)) ?_
      wtm_at "ev_go"
      refine rd_sfldA upd_same S.cls S.n5 (Nat.lt_of_le_of_lt (len_put' (len_put' (len_put' (len_put' len_nil)))) (by decide)) ?_
      wtm_at "ev_go"
      refine rd_sfldA upd_same S.cls S.n6 (Nat.lt_of_le_of_lt (len_put' (len_put' (len_put' (len_put' (len_put' len_nil))))) (by decide)) ?_
      wtm_at "ev_go"
      refine rd_sfldA upd_same S.cls S.n7 (Nat.lt_of_le_of_lt (len_put' (len_put' (len_put' (len_put' (len_put' (len_put' len_nil)))))) (by decide)) ?_
      wtm_at "ev_go"
      obtain ⟨W, hW⟩ : ∃ W : Nat, b.1 = W := ⟨b.1.toNat, by have := nm b (hvm b bm); omega⟩
      obtain ⟨b1, b2⟩ := b
      have hW' : b1 = (W : Int) := hW
      subst hW'
      have fr : Fr a H (upd (upd (upd H' a (.ins cS dx (putF "_steps" (.ref l) (putF "_reach" (.int r) (putF "_near" (.ref ln) []))))) p (.tup [.int (W : Int), .int b2])) a (.ins cS dx (putF "_since" .non (putF "_far" .non (putF "_worth" (.int b2) (putF "_width" (.int W) (putF "_steps" (.ref l) (putF "_reach" (.int r) (putF "_near" (.ref ln) [])))))))))  :=
        (((((Fr.of (Same.refl H)).put).same sm).put).same (Same.new hp)).put
      have hln5 := fr ln _ hn nna
      have nlna : l ≠ a := Ne.symm nal
      refine q _ (fun c => c = a ∨ c = ln ∨ c = l) W b2 fr (fun c h => ?_) tight bm ⟨dx, ln, l, _, R, .non, .non, upd_same, .inl rfl, .inr (.inl rfl), .inr (.inr rfl), fun z => ?_, hln5, ?_, ?_, ⟨rfl, rfl⟩, fun c h => ?_, Nat.lt_of_le_of_lt (len_put' (len_put' (len_put' (len_put' (len_put' (len_put' (len_put' len_nil))))))) (by decide), ?_, ?_, ?_, ?_, ?_, ?_, lk_put0, fun m hm => fields_none hm⟩
      · rcases h with h | h | h
        · exact .inl h
        · exact .inr (.inl h)
        · exact .inr (.inr (by rw [h]; exact hlN))
      · rw [z] at hn
        rw [hlN] at hn
        cases hn
      · exact lk_ne nlna (lk_ne (ne_of_none hl3 hp) hl3)
      · refine ⟨hM3.1, fun i v e => ?_⟩
        obtain ⟨c, q, h1, h2, h3⟩ := hM3.2 i v e
        have h4 : upd (upd H' a (.ins cS dx (putF "_steps" (.ref l) (putF "_reach" (.int r) (putF "_near" (.ref ln) []))))) p (.tup [.int (W : Int), .int b2]) c = some (.tup [.int q.1, .int q.2]) := lk_ne (ne_of_none h3 hp) h3
        exact ⟨c, q, h1, h2, lk_ne (ne_of h4 ha4 (fun z => by cases z)) h4⟩
      · rcases h with h | h | h
        · rw [h, upd_same]
          intro z
          cases z
        · rw [h, hln5]
          intro z
          cases z
        · rw [h, lk_ne nlna (lk_ne (ne_of_none hl3 hp) hl3)]
          intro z
          cases z
      all_goals (repeat (first | exact lk_put0 | rw [lk_put (by decide +kernel)]))
end
end

section
def spFind (cS : Addr) : Sp := fun vs H Q _ => ∃ (a : Addr) (ow : Addr → Prop) (xs : List Int) (us ds : List (Int × Int)) (r W : Nat) (T : Int), vs = [.ref a] ∧ SideF cS H a ow xs us r W T none ∧ SideM us ds r W T ∧ NearOk us ds r xs ∧ xs.length = r + 1 ∧ (∀ x ∈ xs, x.natAbs ≤ 10 ^ 9) ∧
  ∀ (H' : Hp) (ow' : Addr → Prop) (fr sn : List Int), FrO ow H H' → (∀ c, ow' c → ow c ∨ H c = none) → FarOk us ds r W T fr sn → SideF cS H' a ow' xs us r W T (some (fr, sn)) → Q .non H'
section
variable {P : Program} {w : World} {K : PySem.W.Frag} {mg : Str → Option Value} {base : Heap} {cS : Addr}
set_option maxHeartbeats 4000000 in
theorem ok_sfind {f : Addr} {fd : FuncData} (F : Fun K "_find_far" "Side._find_far" s_Side_find_far f fd) (T : Blt mg) (S : TxS K cS) (GSP : CalN P w K mg base 1 "spread" spSpread) : FnOk P w K mg base CX0 2 f fd ["self"] (spFind cS) := by
  refine F.ok sc_Side_find_far (fun vs H Q E h => ?_) (fun cdv A outer s H vs Q E hr h => ?_)
  · obtain ⟨a, ow, xs, us, ds, r, W, T, rfl, _⟩ := h
    rfl
  · obtain ⟨a, ow, xs, us, ds, r, W, tp, rfl, sf, sm_, no, lx, bx, q⟩ := h
    obtain ⟨dx, ln, ls, fs, L, vf, vn, ha, oa, on_, ol, nll, hn, hl, hM, ff, al, lf, l1, l2, l3, l4, l5, l6, l7, lm⟩ := sf
    refine ⟨_, (pss_cons (ps_asg (pe_tup (pa_cons (pe_fld (pv 0) rfl) (pa_cons (pe_fld (pv 0) rfl) pa_nil))) (pg_tup rfl (pgs_cons (pg_name (i := 1) sc_Side_find_far.nd rfl (Or.inr rfl)) (pgs_cons (pg_name (i := 2) sc_Side_find_far.nd rfl (Or.inr rfl)) pgs_nil))))
      (pss_cons (ps_set (i := 3) sc_Side_find_far.nd rfl (Or.inr rfl) (pe_op op_mulW (pe_op op_add (pe_op op_mulW (pe_op op_mulW pe_int (pv 1)) (pe_callB call_len_seq (by rfl) T.n_len PySem.boot_len (pa_cons (pe_fld (pv 0) rfl) pa_nil))) pe_int) (pe_callB call_len_seq (by rfl) T.n_len PySem.boot_len (pa_cons (pe_fld (pv 0) rfl) pa_nil))))
      (pss_cons (ps_set (i := 5) sc_Side_find_far.nd rfl (Or.inr rfl) (pe_lc (own := [("length", 8), ("worth", 4)]) (g := gTup K 2 (gCons (gName 8) (gCons (gName 4) gNil))) (tt := tYes) rfl sc_Side_find_far.nd (pi_enum (by rfl) T.n_enumerate (pa_cons (pe_fld (pv 0) rfl) pa_nil)) (blkOk_by (N := ["self", "wide", "top", "size", "worth", "entries", "table", "width", "length", "rest", "entry"]) (sc := defScope s_Side_find_far) (by decide +kernel)) (fun _ _ _ _ _ => pg_tup rfl (pgs_cons (pg_name (i := 8) sc_Side_find_far.nd rfl (Or.inl rfl)) (pgs_cons (pg_name (i := 4) sc_Side_find_far.nd rfl (Or.inl rfl)) pgs_nil))) (fun _ _ _ _ _ => pts_nil) (fun _ _ _ _ _ => (pe_op op_add (pe_op op_mulW (pe_op op_sub (pe_op op_mulW (pv 4) (pv 1)) (pe_op op_mulW (pv 2) (pv 8))) (pv 3)) (pv 8)))))
      (pss_cons (ps_setLc (i := 6) (own := [("rest", 9)]) (g := gName 9) (tt := tYes) rfl sc_Side_find_far.nd rfl rfl (sw_true rfl rfl rfl (by decide +kernel)) (pi_range1 (by rfl) T.n_range (pa_cons (pv 1) pa_nil)) (blkOk_by (N := ["self", "wide", "top", "size", "worth", "entries", "table", "width", "length", "rest", "entry"]) (sc := defScope s_Side_find_far) (by decide +kernel)) (fun _ _ _ _ _ => pg_name (i := 9) sc_Side_find_far.nd rfl (Or.inl rfl)) (fun _ _ _ _ _ => pts_nil) (fun _ _ _ _ _ => (pe_callB (show CallR _ _ (rMin K) from cr_min rfl) (by rfl) T.n_min boot_min (pa_cons (show PE _ _ (tSl3 K _ _ _) from (pe_sl3 (pv 5) (po_some (pv 9)) (po_some (pv 1)))) pa_nil))))
      (pss_cons (ps_for PassesOwn.never rfl (pi_list (pe_fld (pv 0) rfl)) (pg_tup rfl (pgs_cons (pg_name (i := 7) sc_Side_find_far.nd rfl (Or.inl rfl)) (pgs_cons (pg_name (i := 4) sc_Side_find_far.nd rfl (Or.inl rfl)) pgs_nil))) 
        (pss_one (ps_expr (pe_cN GSP hr (by decide) (by rfl) (pa_cons (pv 6) (pa_cons (pv 7) (pa_cons (pe_op op_add (pe_op op_mulW (pe_op op_sub (pe_op op_mulW (pv 4) (pv 1)) (pe_op op_mulW (pv 2) (pv 7))) (pv 3)) (pv 7)) pa_nil)))))))
      (pss_cons (ps_fld (pv 0) (pe_lc (own := [("rest", 9), ("entry", 10)]) (g := gTup K 2 (gCons (gName 9) (gCons (gName 10) gNil))) (tt := tYes) rfl sc_Side_find_far.nd (pi_enum (by rfl) T.n_enumerate (pa_cons (pv 6) pa_nil)) (blkOk_by (N := ["self", "wide", "top", "size", "worth", "entries", "table", "width", "length", "rest", "entry"]) (sc := defScope s_Side_find_far) (by decide +kernel)) (fun _ _ _ _ _ => pg_tup rfl (pgs_cons (pg_name (i := 9) sc_Side_find_far.nd rfl (Or.inl rfl)) (pgs_cons (pg_name (i := 10) sc_Side_find_far.nd rfl (Or.inl rfl)) pgs_nil))) (fun _ _ _ _ _ => pts_nil) (fun _ _ _ _ _ => (pe_op op_fdivW (pe_op op_add (pe_op op_fdivW (pv 10) (pv 3)) (pe_op op_mulW (pv 2) (pv 9))) (pv 1)))) rfl)
      (pss_one (ps_fld (pv 0) (pe_lc (own := [("entry", 10)]) (g := gName 10) (tt := tYes) rfl sc_Side_find_far.nd (pi_list (pv 6)) (blkOk_by (N := ["self", "wide", "top", "size", "worth", "entries", "table", "width", "length", "rest", "entry"]) (sc := defScope s_Side_find_far) (by decide +kernel)) (fun _ _ _ _ _ => pg_name (i := 10) sc_Side_find_far.nd rfl (Or.inl rfl)) (fun _ _ _ _ _ => pts_nil) (fun _ _ _ _ _ => (pe_op op_mod (pv 10) (pv 3)))) rfl)))))))), ?_⟩
    have Wr := sm_.Wr
    have lr := sm_.lr
    have lu := sm_.lu
    have hW := sm_.hW
    have lL : L.length = us.length := hM.1
    wtm_at "ev_go"
    refine rd_fldA ha S.cls S.n4 l4 ?_
    wtm_at "ev_go"
    refine rd_fldA ha S.cls S.n5 l5 ?_
    wtm_at "ev_go"
    intro p hp
    have s1 : Same H (upd H p (.tup [.int W, .int tp])) := Same.new hp
    have hp1 : upd H p (.tup [.int W, .int tp]) p = some (.tup [.int W, .int tp]) := upd_same
    generalize upd H p (.tup [.int W, .int tp]) = H1 at s1 hp1 ⊢
    wtm_at "ev_go"
    refine rd_rI (Num.mul (num_of (by decide)) (num_of (by omega))) ?_
    wtm_at "ev_go"
    refine rd_fldA (s1 _ _ ha) S.cls S.n3 l3 ?_
    wtm_at "ev_go"
    rw [lL]
    have d1 : 2 * W * us.length ≤ 200 * 40 := Nat.mul_le_mul (by omega) lu
    have d2 : sizeOf_ W us.length r ≤ 8001 * 101 := Nat.mul_le_mul (by omega) (by omega)
    have e1 : (2 * (W : Int)) * (us.length : Int) = ((2 * W * us.length : Nat) : Int) := by rw [Int.natCast_mul, Int.natCast_mul]; rfl
    refine rd_rI (Num.mul (num_of (by omega)) (num_of (by omega))) ?_
    rw [e1]
    wtm_at "ev_go"
    refine rd_fldA (s1 _ _ ha) S.cls S.n1 l1 ?_
    wtm_at "ev_go"
    rw [List.length_map, lx]
    have e2 : (((2 * W * us.length : Nat) : Int) + 1) * ((r + 1 : Nat) : Int) = ((sizeOf_ W us.length r : Nat) : Int) := by
      unfold sizeOf_
      rw [Int.natCast_mul (2 * W * us.length + 1), Int.natCast_add (2 * W * us.length) 1]
      rfl
    refine rd_rI (Num.mul (num_of (by omega)) (num_of (by omega))) ?_
    rw [e2]
    have S0 : 0 < sizeOf_ W us.length r := by
      have := (size_big (r := r) (W := W) (List.length_pos_of_mem sm_.hs)).2
      omega
    generalize hS : sizeOf_ W us.length r = Sz at d2 S0 ⊢
    have bnd : ∀ {x y : Int} {m n : Nat}, x.natAbs ≤ m → y.natAbs ≤ n → (x * y).natAbs ≤ m * n := fun hx hy => by
      rw [Int.natAbs_mul]
      exact Nat.mul_le_mul hx hy
    have btp : tp.natAbs ≤ 10 ^ 6 := sm_.bu _ sm_.hs
    have ha1 := s1 _ _ ha
    have hn1 := s1 _ _ hn
    have hl1 := s1 _ _ hl
    wtm_at "ev_go"
    refine rd_lcQ ?_
    wtm_at "ev_go"
    refine rd_fldA ha1 S.cls S.n1 l1 ?_
    wtm_at "ev_go"
    refine rd_lcN2 (fun n x => (x * W - tp * n) * Sz + n) (SqL.of hn1) (by omega) rfl (fun x y => rfl) (fun n x H' Q' hx sm fin => ?_) (fun le es H2 s2 hle hes les ees => ?_)
    · have nl : n < xs.length := (List.getElem?_eq_some_iff.mp hx).1
      have b1 := bx x (List.mem_of_getElem? hx)
      have b2 := bnd (n := 100) b1 (show (W : Int).natAbs ≤ 100 by omega)
      have b3 := bnd (n := 101) btp (show (n : Int).natAbs ≤ 101 by omega)
      wtm_at "ev_go"
      refine rd_rI (Num.mul (num15 (by omega)) (num15 (by omega))) ?_
      wtm_at "ev_go"
      refine rd_rI (Num.mul (num15 (by omega)) (num15 (by omega))) ?_
      wtm_at "ev_go"
      refine rd_rI (Num.mul (num15 (by omega)) (num15 (by omega))) ?_
      wtm_at "ev_go"
      exact fin
    have s12 := s1.trans s2
    have hle0 : H le = none := s1.free hle
    wtm_at "ev_go"
    rw [Int.toNat_natCast]
    refine rd_lcR (fun ρ z => ∃ (n : Nat) (x : Int), xs[n]? = some x ∧ n % W = ρ ∧ z = (x * W - tp * n) * Sz + n ∧ ∀ (n' : Nat) (x' : Int), xs[n']? = some x' → n' % W = ρ → z ≤ (x' * W - tp * n') * Sz + n') (by omega) (fun x => rfl) (fun ρ H' Q' hρ sm fin => ?_) (fun lt ts H3 s3 hlt hts lts ets => ?_)
    · rw [Int.zero_add]
      wtm_at "ev_go"
      refine rd_sl3 ?_
      wtm_at "ev_go"
      refine ⟨le, es.map V.int, (ρ : Int), (W : Int), rfl, rfl, rfl, SqL.of (sm _ _ hes), by omega, fun p3 hp3 => ?_⟩
      obtain ⟨ns, en, n0, n1, n2⟩ := pick_pos (xs := es) hW hρ (by omega)
      rw [en]
      wtm_at "ev_go"
      refine rd_minL (SqL.of upd_same) n0 (fun m hm hmin => ?_)
      refine fin m _ ?_ (Same.new hp3)
      obtain ⟨n, e, em⟩ := n1 m hm
      have nl : n < xs.length := by rw [← les]; exact (List.getElem?_eq_some_iff.mp e).1
      have ex := List.getElem?_eq_getElem nl
      rw [ees n _ ex] at e
      refine ⟨n, _, ex, em, (Option.some.inj e).symm, fun n' x' e' em' => hmin _ (n2 n' _ (ees n' x' e') em')⟩
    have s13 := s12.trans s3
    have hlt0 : H lt = none := s12.free hlt
    have ti0 : TI us ds r W tp (Sz : Int) [] (gt ts) := TI.init no lx sm_ (by omega) (fun ρ hρ => by
        obtain ⟨n, x, e1, e2, e3, _⟩ := ets ρ _ (gt_at (by omega))
        exact ⟨n, x, e1, e2, e3⟩) (fun n x e => by
        obtain ⟨_, _, _, _, _, e4⟩ := ets (n % W) _ (gt_at (by rw [lts]; exact Nat.mod_lt _ hW))
        exact e4 n x e rfl)
    have ha3 := s13 _ _ ha
    have hl3 := s13 _ _ hl
    have nla : lt ≠ a := ne_of hts ha3 (fun z => by cases z)
    have nltl : lt ≠ ls := fun z => by rw [z, hl] at hlt0; cases hlt0
    have eH3 : H3 = upd H3 lt (.lst (ts.map V.int)) := by
      funext b
      by_cases c : b = lt
      · rw [c, upd_same, hts]
      · rw [upd_ne c]
    wtm_at "ev_go"
    refine rd_fldA ha3 S.cls S.n3 l3 ?_
    wtm_at "ev_go"
    refine rd_forL (xs := L) (fun i σ' H' => ∃ (x4 x7 x8 x9 x10 : Option V) (t : List Int), σ' = [some (.ref a), some (.int W), some (.int tp), some (.int Sz), x4, some (.ref le), some (.ref lt), x7, x8, x9, x10] ∧ H' = upd H3 lt (.lst (t.map V.int)) ∧ t.length = W ∧ TI us ds r W tp (Sz : Int) (us.take i) (gt t)) ⟨_, _, _, _, _, ts, rfl, eH3, lts, by rw [List.take_zero]; exact ti0⟩
      (fun i σ' H' _ h => by obtain ⟨_, _, _, _, _, t, _, e, _⟩ := h; rw [e]; exact SqL.of (lk_ne (Ne.symm nltl) hl3)) ?_ ?_
    · rintro i v σ' H' hx ⟨x4, x7, x8, x9, x10, t, rfl, rfl, lt_, ti⟩
      obtain ⟨bb, m, rfl, hm, hbb⟩ := (hM.mono s13).2 i v hx
      have mm := List.mem_of_getElem? hm
      have nm := sm_.nu m mm
      have bm := sm_.bu m mm
      have tt := sm_.ht m mm
      have hbb' : upd H3 lt (.lst (t.map V.int)) bb = some (.tup [.int m.1, .int m.2]) := lk_ne (ne_of hbb hts (fun z => by cases z)) hbb
      wtm_at "ev_go"
      have b2 := bnd (n := 100) bm (show (W : Int).natAbs ≤ 100 by omega)
      have b3 := bnd (n := 100) btp (show (m.1 : Int).natAbs ≤ 100 by omega)
      refine rd_rI (Num.mul (num15 (by omega)) (num15 (by omega))) ?_
      wtm_at "ev_go"
      refine rd_rI (Num.mul (num15 (by omega)) (num15 (by omega))) ?_
      wtm_at "ev_go"
      refine rd_rI (Num.mul (num15 (by omega)) (num15 (by omega))) ?_
      wtm_at "ev_go"
      obtain ⟨wd, ewd⟩ : ∃ wd : Nat, m.1 = wd := ⟨m.1.toNat, by omega⟩
      have m0 : 0 ≤ (m.2 * W - tp * m.1) * Sz + m.1 := by
        have := Int.mul_nonneg (show 0 ≤ m.2 * W - tp * m.1 by omega) (show (0 : Int) ≤ Sz by omega)
        omega
      refine ⟨lt, wd, (m.2 * W - tp * m.1) * Sz + m.1, t, by rw [← ewd]; rfl, upd_same, by omega, by omega, m0, fun t' lt' spr => ?_⟩
      rw [lt_] at spr lt'
      wtm_at "ev_go"
      refine ⟨_, _, _, _, _, t', rfl, rfl, lt', ?_⟩
      have := ti.step hW mm ewd (by omega) spr
      rw [List.take_add_one, hm]
      exact this
    · rintro σ' H' ⟨x4, x7, x8, x9, x10, t, rfl, rfl, lt_, ti⟩
      rw [lL, List.take_length] at ti
      have ha4 : upd H3 lt (.lst (t.map V.int)) a = some (.ins cS dx fs) := lk_ne (Ne.symm nla) ha3
      wtm_at "ev_go"
      refine rd_lcQ ?_
      wtm_at "ev_go"
      refine rd_lcN2 (fun ρ x => (x / Sz + tp * ρ) / W) (SqL.of upd_same) (by omega) rfl (fun x y => rfl) (fun ρ x H' Q' hx sm fin => ?_) (fun lf_ fr H5 s5 hlf hfr lfr efr => ?_)
      · have ρl : ρ < t.length := (List.getElem?_eq_some_iff.mp hx).1
        wtm_at "ev_go"
        try (refine rd_rI (Num.mul (num15 (by omega)) (num15 (by omega))) ?_; wtm_at "ev_go")
        try (refine rd_rI (Num.mul (num15 (by omega)) (num15 (by omega))) ?_; wtm_at "ev_go")
        exact fin
      have ha5 := s5 _ _ ha4
      wtm_at "ev_go"
      refine rd_sfldA ha5 S.cls S.n6 (by omega) ?_
      have hlt5 : upd H5 a (.ins cS dx (putF "_far" (.ref lf_) fs)) lt = some (.lst (t.map V.int)) := lk_ne nla (s5 _ _ upd_same)
      wtm_at "ev_go"
      refine rd_lcI (fun x => x % Sz) (SqL.of hlt5) (by omega) (fun x => rfl) (fun x H' Q' hx sm fin => ?_) (fun lsn H7 s7 hlsn hsn => ?_)
      · wtm_at "ev_go"
        exact fin
      have ha7 := s7 _ _ (upd_same (H := H5) (a := a) (o := .ins cS dx (putF "_far" (.ref lf_) fs)))
      wtm_at "ev_go"
      refine rd_sfldA ha7 S.cls S.n7 (Nat.lt_of_le_of_lt (len_put' (Nat.le_of_lt_succ (Nat.lt_succ_of_lt lf))) (by decide)) ?_
      wtm_at "ev_go"
      have f3 : FrO ow H H3 := FrO.of s13
      have f4 := f3.put (a := lt) (o := .lst (t.map V.int)) (.inr hlt0) (fun xs z => by rw [hts] at z; cases z)
      have f5 := f4.trans (FrO.of (ow := ow) s5) (fun c h => .inl h)
      have f6 := f5.put (a := a) (o := .ins cS dx (putF "_far" (.ref lf_) fs)) (.inl oa) (fun xs z => by rw [ha5] at z; cases z)
      have f7 := f6.trans (FrO.of (ow := ow) s7) (fun c h => .inl h)
      have f8 := f7.put (a := a) (o := .ins cS dx (putF "_since" (.ref lsn) (putF "_far" (.ref lf_) fs))) (.inl oa) (fun xs z => by rw [ha7] at z; cases z)
      have nlf : lf_ ≠ lt := fun z => by rw [z, upd_same] at hlf; cases hlf
      have hlf0 : H lf_ = none := by rw [upd_ne nlf] at hlf; exact s13.free hlf
      have nlfa : lf_ ≠ a := fun z => by rw [z, ha] at hlf0; cases hlf0
      have nlsn : lsn ≠ a := fun z => by rw [z, upd_same] at hlsn; cases hlsn
      have hlsn5 : H5 lsn = none := by rw [upd_ne nlsn] at hlsn; exact hlsn
      have hlsn4 := s5.free hlsn5
      have nlsnt : lsn ≠ lt := fun z => by rw [z, upd_same] at hlsn4; cases hlsn4
      have hlsn0 : H lsn = none := by rw [upd_ne nlsnt] at hlsn4; exact s13.free hlsn4
      have up : ∀ c o, H c = some o → c ≠ a → upd H7 a (.ins cS dx (putF "_since" (.ref lsn) (putF "_far" (.ref lf_) fs))) c = some o := fun c o e n => by
        have n2 : c ≠ lt := fun z => by rw [z, hlt0] at e; cases e
        exact lk_ne n (s7 _ _ (lk_ne n (s5 _ _ (lk_ne n2 (s13 _ _ e)))))
      have nlna : ln ≠ a := ne_of hn ha (fun z => by cases z)
      have nlsa : ls ≠ a := ne_of hl ha (fun z => by cases z)
      have hfr8 : upd H7 a (.ins cS dx (putF "_since" (.ref lsn) (putF "_far" (.ref lf_) fs))) lf_ = some (.lst (fr.map V.int)) := lk_ne nlfa (s7 _ _ (lk_ne nlfa hfr))
      have hsn8 : upd H7 a (.ins cS dx (putF "_since" (.ref lsn) (putF "_far" (.ref lf_) fs))) lsn = some (.lst ((t.map fun x => x % (Sz : Int)).map V.int)) := lk_ne nlsn hsn
      have far := far_ok sm_ no (f := gt t) (by rw [hS]; exact ti) (fr := fr) (sn := t.map fun x => x % (Sz : Int)) (by rw [lfr, lt_]) (by rw [List.length_map, lt_])
        (fun ρ hρ => by rw [hS]; exact efr ρ _ (gt_at (by omega))) (fun ρ hρ => by rw [hS, List.getElem?_map, gt_at (by omega)]; rfl)
      refine q _ (fun c => ow c ∨ c = lf_ ∨ c = lsn) fr _ f8 (fun c h => ?_) far ⟨dx, ln, ls, _, L, .ref lf_, .ref lsn, upd_same, .inl oa, .inl on_, .inl ol, nll, up _ _ hn nlna, up _ _ hl nlsa, ⟨hM.1, fun i v e => ?_⟩, ⟨lf_, lsn, rfl, rfl, .inr (.inl rfl), .inr (.inr rfl), fun z => ?_, fun z => ?_, hfr8, hsn8⟩, fun c h => ?_, ?_, ?_, ?_, ?_, ?_, ?_, ?_, lk_put0, fun m hm' => ?_⟩
      · rcases h with h | h | h
        · exact .inl h
        · exact .inr (by rw [h]; exact hlf0)
        · exact .inr (by rw [h]; exact hlsn0)
      · obtain ⟨c, m, h1, h2, h3⟩ := hM.2 i v e
        exact ⟨c, m, h1, h2, up _ _ h3 (ne_of h3 ha (fun z => by cases z))⟩
      · rw [z, hn] at hlf0
        cases hlf0
      · rw [z, hn] at hlsn0
        cases hlsn0
      · rcases h with h | h | h
        · exact f8.2 c (al c h)
        · rw [h, hfr8]
          intro z
          cases z
        · rw [h, hsn8]
          intro z
          cases z
      · rw [len_putS (u := vn) (by rw [lk_put (by decide +kernel)]; exact l7), len_putS (u := vf) l6]
        exact lf
      · rw [lk_put (by decide +kernel), lk_put (by decide +kernel)]
        exact l1
      · rw [lk_put (by decide +kernel), lk_put (by decide +kernel)]
        exact l2
      · rw [lk_put (by decide +kernel), lk_put (by decide +kernel)]
        exact l3
      · rw [lk_put (by decide +kernel), lk_put (by decide +kernel)]
        exact l4
      · rw [lk_put (by decide +kernel), lk_put (by decide +kernel)]
        exact l5
      · rw [lk_put (by decide +kernel)]
        exact lk_put0
      · have hm2 := hm'
        unfold sideField at hm2
        simp only [Bool.or_eq_false_iff, beq_eq_false_iff_ne] at hm2
        obtain ⟨⟨⟨⟨⟨⟨h1, h2⟩, h3⟩, h4⟩, h5⟩, h6⟩, h7⟩ := hm2
        rw [lk_put h7, lk_put h6]
        exact lm m hm'
end
end

section
def spLen (cS : Addr) : Sp := fun vs H Q _ => ∃ (a : Addr) (n : Int) (ow : Addr → Prop) (xs : List Int) (us ds : List (Int × Int)) (r W : Nat) (T : Int) (far : Option (List Int × List Int)), vs = [.ref a, .int n] ∧ n ≤ 10 ^ 7 ∧ SideF cS H a ow xs us r W T far ∧ SideM us ds r W T ∧ NearOk us ds r xs ∧
  ∀ (H' : Hp) (xs' : List Int), FrO ow H H' → (∀ c, H c = none → ow c → False) → n < xs'.length → NearOk us ds r xs' → SideF cS H' a ow xs' us r W T far → Q .non H'
section
variable {P : Program} {w : World} {K : PySem.W.Frag} {mg : Str → Option Value} {base : Heap} {cS : Addr}
set_option maxHeartbeats 4000000 in
theorem ok_slen {f : Addr} {fd : FuncData} (F : Fun K "_lengthen" "Side._lengthen" s_Side_lengthen f fd) (T : Blt mg) (S : TxS K cS) : FnOk P w K mg base CX0 1 f fd ["self", "length"] (spLen cS) := by
  refine F.ok sc_Side_lengthen (fun vs H Q E h => ?_) (fun cdv A outer s H vs Q E hr h => ?_)
  · obtain ⟨a, n, ow, xs, us, ds, r, W, T, far, rfl, _⟩ := h
    rfl
  · obtain ⟨a, n, ow, xs, us, ds, r, W, tp, far, rfl, nb, sf, sm_, no, q⟩ := h
    obtain ⟨dx, ln, ls, fs, L, vf, vn, ha, oa, on_, ol, nll, hn, hl, hM, ff, al, lf, l1, l2, l3, l4, l5, l6, l7, lm⟩ := sf
    refine ⟨_, (pss_cons (ps_asg (pe_tup (pa_cons (pe_fld (pv 0) rfl) (pa_cons (pe_fld (pv 0) rfl) pa_nil))) (pg_tup rfl (pgs_cons (pg_name (i := 2) sc_Side_lengthen.nd rfl (Or.inr rfl)) (pgs_cons (pg_name (i := 3) sc_Side_lengthen.nd rfl (Or.inr rfl)) pgs_nil))))
      (pss_one (ps_while PassesOwn.never (pt_cmpR op_le (pe_callB call_len_seq (by rfl) T.n_len PySem.boot_len (pa_cons (pv 2) pa_nil)) (pv 1) (nomark _)) 
        (pss_cons (ps_set (i := 4) sc_Side_lengthen.nd rfl (Or.inr rfl) (pe_callB call_len_seq (by rfl) T.n_len PySem.boot_len (pa_cons (pv 2) pa_nil)))
        (pss_cons (ps_setLc (i := 5) (own := [("width", 8), ("worth", 9)]) (g := gTup K 2 (gCons (gName 8) (gCons (gName 9) gNil))) (tt := _) rfl sc_Side_lengthen.nd rfl rfl (sw_true rfl rfl rfl (by decide +kernel)) (pi_list (pe_fld (pv 0) rfl)) (blkOk_by (N := ["self", "length", "near", "wide", "at", "ends", "size", "rows", "width", "worth", "_", "told", "column"]) (sc := defScope s_Side_lengthen) (by decide +kernel)) (fun _ _ _ _ _ => pg_tup rfl (pgs_cons (pg_name (i := 8) sc_Side_lengthen.nd rfl (Or.inl rfl)) (pgs_cons (pg_name (i := 9) sc_Side_lengthen.nd rfl (Or.inl rfl)) pgs_nil))) (fun _ _ _ _ _ => (pts_one (pw_or (pt_cmpR op_gt (pe_op op_mulW (pv 8) (pv 3)) (pv 4) (nomark _)) (pw_or1 (pt_cmpR op_eq (pv 8) (pv 3) (nomark _)))).pt)) (fun _ _ _ _ _ => (pe_tup (pa_cons (pv 8) (pa_cons (pv 9) pa_nil)))))
        (pss_cons (ps_set (i := 6) sc_Side_lengthen.nd rfl (Or.inr rfl) (pe_callB (cr_min rfl) (by rfl) T.n_min boot_min (pa_cons (pe_lc (own := [("width", 8), ("_", 10)]) (g := gTup K 2 (gCons (gName 8) (gCons (gName 10) gNil))) (tt := tYes) rfl sc_Side_lengthen.nd (pi_list (pv 5)) (blkOk_by (N := ["self", "length", "near", "wide", "at", "ends", "size", "rows", "width", "worth", "_", "told", "column"]) (sc := defScope s_Side_lengthen) (by decide +kernel)) (fun _ _ _ _ _ => pg_tup rfl (pgs_cons (pg_name (i := 8) sc_Side_lengthen.nd rfl (Or.inl rfl)) (pgs_cons (pg_name (i := 10) sc_Side_lengthen.nd rfl (Or.inl rfl)) pgs_nil))) (fun _ _ _ _ _ => pts_nil) (fun _ _ _ _ _ => (pv 8))) pa_nil)))
        (pss_cons (ps_setLc (i := 7) (own := [("width", 8), ("worth", 9)]) (g := gTup K 2 (gCons (gName 8) (gCons (gName 9) gNil))) (tt := tYes) rfl sc_Side_lengthen.nd rfl rfl (sw_true rfl rfl rfl (by decide +kernel)) (pi_list (pv 5)) (blkOk_by (N := ["self", "length", "near", "wide", "at", "ends", "size", "rows", "width", "worth", "_", "told", "column"]) (sc := defScope s_Side_lengthen) (by decide +kernel)) (fun _ _ _ _ _ => pg_tup rfl (pgs_cons (pg_name (i := 8) sc_Side_lengthen.nd rfl (Or.inl rfl)) (pgs_cons (pg_name (i := 9) sc_Side_lengthen.nd rfl (Or.inr rfl)) pgs_nil))) (fun _ _ _ _ _ => pts_nil) (fun _ _ _ _ _ => (pe_lc (own := [("told", 11)]) (g := gName 11) (tt := tYes) rfl sc_Side_lengthen.nd (show PI _ _ _ (iList K _) from (pi_list (pe_slice (show SlR _ (rSlL K) from sl_list) (pv 2) (po_some (pe_op op_sub (pv 4) (pv 8))) (po_some (pe_op op_add (pe_op op_sub (pv 4) (pv 8)) (pv 6)))))) (blkOk_by (N := ["self", "length", "near", "wide", "at", "ends", "size", "rows", "width", "worth", "_", "told", "column"]) (sc := ({ kind := PySem.ScopeKind.function, names := [ (PySem.Str.ofString ".0", PySem.NameKind.local), (PySem.Str.ofString "width", PySem.NameKind.local), (PySem.Str.ofString "worth", PySem.NameKind.cell), (PySem.Str.ofString "at", PySem.NameKind.cell), (PySem.Str.ofString "near", PySem.NameKind.cell), (PySem.Str.ofString "size", PySem.NameKind.cell)], isGenerator := false, isCoroutine := false, more := [] : PySem.Scope })) (by decide +kernel)) (fun _ _ _ _ _ => pg_name (i := 11) sc_Side_lengthen.nd rfl (Or.inl rfl)) (fun _ _ _ _ _ => pts_nil) (fun _ _ _ _ _ => (pe_op op_add (pv 11) (pv 9))))))
        (pss_one (ps_expr (pe_bm PySem.F.plainAttrs_list PySem.F.slot_list_extend PySem.F.type_list_extend mt_extend (pv 2) (pa_cons (pe_lc (own := [("column", 12)]) (g := gName 12) (tt := tYes) rfl sc_Side_lengthen.nd (pi_zipn (by rfl) T.n_zip (pv 7)) (blkOk_by (N := ["self", "length", "near", "wide", "at", "ends", "size", "rows", "width", "worth", "_", "told", "column"]) (sc := defScope s_Side_lengthen) (by decide +kernel)) (fun _ _ _ _ _ => pg_name (i := 12) sc_Side_lengthen.nd rfl (Or.inl rfl)) (fun _ _ _ _ _ => pts_nil) (fun _ _ _ _ _ => (pe_callB (show CallR _ _ (rMinT K) from cr_minT rfl) (by rfl) T.n_min boot_min (pa_cons (pv 12) pa_nil)))) pa_nil))))))))))), ?_⟩
    have Wr := sm_.Wr
    have lr := sm_.lr
    have lu := sm_.lu
    have hW := sm_.hW
    have lL : L.length = us.length := hM.1
    wtm_at "ev_go"
    refine rd_fldA ha S.cls S.n1 l1 ?_
    wtm_at "ev_go"
    refine rd_fldA ha S.cls S.n4 l4 ?_
    wtm_at "ev_go"
    intro p hp
    have s1 : Same H (upd H p (.tup [.ref ln, .int W])) := Same.new hp
    have hp1 : upd H p (.tup [.ref ln, .int W]) p = some (.tup [.ref ln, .int W]) := upd_same
    generalize upd H p (.tup [.ref ln, .int W]) = H1 at s1 hp1 ⊢
    wtm_at "ev_go"
    have nlna : a ≠ ln := ne_of ha hn (fun z => by cases z)
    have nlsn : ls ≠ ln := Ne.symm nll
    refine ⟨fun m σ' H' => ∃ (x4 x5 x6 x7 x8 x9 x10 x11 x12 : Option V) (ys : List Int), σ' = [some (.ref a), some (.int n), some (.ref ln), some (.int W), x4, x5, x6, x7, x8, x9, x10, x11, x12] ∧ Fr ln H H' ∧ (∀ c, H c ≠ none → H' c ≠ none) ∧ H' ln = some (.lst (ys.map V.int)) ∧ NearOk us ds r ys ∧ m = (n + 1 - ys.length).toNat,
      ⟨_, _, _, _, _, _, _, _, _, _, xs, rfl, Fr.of s1, (FrO.of (ow := ow) s1).2, s1 _ _ hn, no, rfl⟩, ?_⟩
    rintro m σ' H' ⟨x4, x5, x6, x7, x8, x9, x10, x11, x12, ys, rfl, fr, alv, hys, nys, rfl⟩
    wtm_at "ev_go"
    rw [List.length_map]
    refine rd_ite (fun hle => ?_) (fun hgt => ?_)
    · have ha2 := fr _ _ ha nlna
      have hl2 := fr _ _ hl nlsn
      have hM2 : MvL H' L us := ⟨hM.1, fun i v e => by
        obtain ⟨c, q, h1, h2, h3⟩ := hM.2 i v e
        exact ⟨c, q, h1, h2, fr _ _ h3 (ne_of h3 hn (fun z => by cases z))⟩⟩
      refine ⟨fun σ' H'' => ∃ m', m' < (n + 1 - ys.length).toNat ∧ ∃ (x4 x5 x6 x7 x8 x9 x10 x11 x12 : Option V) (zs : List Int), σ' = [some (.ref a), some (.int n), some (.ref ln), some (.int W), x4, x5, x6, x7, x8, x9, x10, x11, x12] ∧ Fr ln H H'' ∧ (∀ c, H c ≠ none → H'' c ≠ none) ∧ H'' ln = some (.lst (zs.map V.int)) ∧ NearOk us ds r zs ∧ m' = (n + 1 - zs.length).toNat, fun σ' H' h => h, ?_⟩
      wtm_at "ev_go"
      rw [List.length_map]
      refine rd_fldA ha2 S.cls S.n3 l3 ?_
      wtm_at "ev_go"
      refine rd_lcF (endP W ys.length) (SqL.of hl2) hM2 (by have := hM2.1; omega) rfl (fun x y => rfl) (fun s H3 Q' hs sm fin => ?_) (fun s H3 Q' hs ps sm fin => ?_) (fun le R H3 s3 hle3 hR hMR => ?_)
      · have ns := sm_.nu s hs
        wtm_at "ev_go"
        refine rd_rI (Num.mul (num_of (by omega)) (num_of (by omega))) ?_
        wtm_at "ev_go"
        by_cases c1 : (ys.length : Int) < s.1 * W
        · rw [decide_eq_true c1, if_pos rfl]
          have e : endP W ys.length s = true := by unfold endP; rw [decide_eq_true (show s.1 * (W : Int) > ys.length from c1)]; rfl
          rw [e] at fin
          exact fin
        · rw [decide_eq_false c1, if_neg (by decide)]
          wtm_at "ev_go"
          have e : endP W ys.length s = decide (V.int s.1 = V.int (W : Int)) := by
            unfold endP
            rw [decide_eq_false (show ¬ s.1 * (W : Int) > ys.length from c1), Bool.false_or]
            exact decide_eq_decide.mpr ⟨fun z => by rw [z], fun z => by injection z⟩
          rw [e] at fin
          exact fin
      · wtm_at "ev_go"
        exact fin
      · have les : (us.filter (endP W ys.length)).length ≤ 40 := Nat.le_trans (List.length_filter_le _ _) lu
        have mes : ∀ s : Int × Int, s ∈ us.filter (endP W ys.length) ↔ s ∈ us ∧ (s.1 * (W : Int) > ys.length ∨ s.1 = W) := fun s => by
          unfold endP
          rw [List.mem_filter, Bool.or_eq_true, decide_eq_true_eq, decide_eq_true_eq]
        generalize us.filter (endP W ys.length) = es at les mes hMR
        have lR : R.length = es.length := hMR.1
        have hWe : ((W : Int), tp) ∈ es := (mes _).mpr ⟨sm_.hs, .inr rfl⟩
        have hys3 := s3 _ _ hys
        wtm_at "ev_go"
        refine rd_lcM (fun s => s.1) (SqL.of hR) hMR (by omega) rfl (fun x y => rfl) (fun s H4 Q' hs sm fin => ?_) (fun lw H4 s4 hlw hww => ?_)
        · wtm_at "ev_go"
          exact fin
        wtm_at "ev_go"
        refine rd_minL (SqL.of hww) (by rw [List.length_map]; exact List.length_pos_of_mem hWe) (fun sz0 hsz hmin => ?_)
        obtain ⟨s0, hs0, es0⟩ := List.mem_map.mp hsz
        have hmin' : ∀ s ∈ es, sz0 ≤ s.1 := fun s h => hmin s.1 (List.mem_map.mpr ⟨s, h, rfl⟩)
        have ns0 := sm_.nu s0 ((mes s0).mp hs0).1
        obtain ⟨sz, rfl⟩ : ∃ sz : Nat, sz0 = sz := ⟨sz0.toNat, by have : s0.1 = sz0 := es0; omega⟩
        have sz1 : 1 ≤ sz := by have : s0.1 = (sz : Int) := es0; omega
        have szr : sz ≤ r := by have : s0.1 = (sz : Int) := es0; omega
        clear hsz hmin hww
        have hys4 := s4 _ _ hys3
        have hR4 := s4 _ _ hR
        have hge := nys.1
        wtm_at "ev_go"
        refine rd_lcW (fun s => ((ys.drop (ys.length - s.1.toNat)).take sz).map (· + s.2)) (SqL.of hR4) (hMR.mono s4) (by omega) rfl (fun x y => rfl) (fun s H5 Q' hs sm fin => ?_) (fun lw2 R2 H5 s5 hlw2 hR2 hRw => ?_)
        · have ns := sm_.nu s ((mes s).mp hs).1
          have ei : (ys.length : Int) - s.1 = ((ys.length - s.1.toNat : Nat) : Int) := by omega
          wtm_at "ev_go"
          rw [ei]
          refine rd_slL (SqL.of (sm _ _ hys4)) (fun q5 hq5 => ?_)
          rw [cutV_mid (by rw [List.length_map]; have := hmin' s hs; omega), ← List.map_drop, ← List.map_take]
          wtm_at "ev_go"
          refine rd_lcI (fun x => x + s.2) (SqL.of upd_same) (by rw [List.length_take]; omega) (fun x => rfl) (fun x H6 Q6 hx sm6 fin6 => ?_) (fun l6 H6 s6 hl6 hh6 => ?_)
          · wtm_at "ev_go"
            exact fin6
          · exact fin l6 H6 ((Same.new hq5).trans s6) ((Same.new hq5).free hl6) hh6
        obtain ⟨ra, eR2, lra, hra⟩ := hRw.refs
        subst eR2
        rw [List.length_map] at lra
        have hra0 : ra ≠ [] := fun z => by
          rw [z] at lra
          have := List.length_pos_of_mem hWe
          rw [← lra] at this
          cases this
        have hys5 := s5 _ _ hys4
        have all : ∀ (k : Nat) (l : Addr) (q : List Int), ra[k]? = some l → (es.map fun s => ((ys.drop (ys.length - s.1.toNat)).take sz).map (· + s.2))[k]? = some q → H5 l = some (.lst (q.map V.int)) ∧ q.length = sz := fun k l q e1 e2 => by
          refine ⟨hra k l q e1 e2, ?_⟩
          rw [List.getElem?_map] at e2
          cases ek : es[k]? with
          | none => rw [ek] at e2; cases e2
          | some s =>
            rw [ek] at e2
            cases e2
            have ms := List.mem_of_getElem? ek
            have ns := sm_.nu s ((mes s).mp ms).1
            have := hmin' s ms
            rw [List.length_map, List.length_take, List.length_drop]
            omega
        wtm_at "ev_go"
        refine rd_lcZ0 ?_
        wtm_at "ev_go"
        refine ⟨lw2, ra, rfl, .inr (SqL.of hR2), hra0, by rw [sizeLine_eq]; omega, fun l hl9 => ?_, ?_⟩
        · obtain ⟨k, hk⟩ := List.getElem?_of_mem hl9
          have kl : k < (es.map fun s => ((ys.drop (ys.length - s.1.toNat)).take sz).map (· + s.2)).length := by
            rw [List.length_map, ← lra]
            exact (List.getElem?_eq_some_iff.mp hk).1
          exact ⟨_, SqL.of (all k l _ hk (List.getElem?_eq_getElem kl)).1⟩
        refine rd_lcZ (n := sz) (fun i x => (∃ s ∈ es, ∃ y, ys[ys.length + i - s.1.toNat]? = some y ∧ x = y + s.2) ∧ ∀ s ∈ es, ∀ y, ys[ys.length + i - s.1.toNat]? = some y → x ≤ y + s.2) (rows := es.map fun s => ((ys.drop (ys.length - s.1.toNat)).take sz).map (· + s.2)) (fun z => by
            have := List.length_pos_of_mem hWe
            rw [← List.length_map (f := fun s : Int × Int => ((ys.drop (ys.length - s.1.toNat)).take sz).map (· + s.2)), z] at this
            cases this) (by rw [List.length_map]; exact lra) all (by omega) (fun x => rfl) (fun i Tc cs H6 Q6 hi sm6 hTc lcs hcs fin6 => ?_) (fun lz zs H6 s6 hlz hzs lzs ezs => ?_)
        · wtm_at "ev_go"
          have at_ : ∀ (k : Nat) (s : Int × Int), es[k]? = some s → cs[k]? = ys[ys.length - s.1.toNat + i]?.map (· + s.2) := fun k s ek => by
            have e1 : (es.map fun s => ((ys.drop (ys.length - s.1.toNat)).take sz).map (· + s.2))[k]? = some (((ys.drop (ys.length - s.1.toNat)).take sz).map (· + s.2)) := by rw [List.getElem?_map, ek]; rfl
            rw [← hcs k _ e1, row_at hi]
          rw [List.length_map] at lcs
          refine rd_minT (SqT.of hTc) (by rw [lcs]; exact List.length_pos_of_mem hWe) (fun m hm hmn => fin6 m ⟨?_, fun s hs y hy => ?_⟩)
          · obtain ⟨k, hk⟩ := List.getElem?_of_mem hm
            have kl : k < es.length := by rw [← lcs]; exact (List.getElem?_eq_some_iff.mp hk).1
            have ek := List.getElem?_eq_getElem kl
            have mk := List.getElem_mem kl
            have nk := sm_.nu _ ((mes _).mp mk).1
            have := at_ k _ ek
            rw [hk] at this
            cases ey : ys[ys.length - (es[k]).1.toNat + i]? with
            | none => rw [ey] at this; cases this
            | some y =>
              rw [ey] at this
              refine ⟨es[k], mk, y, ?_, Option.some.inj this⟩
              rw [show ys.length + i - (es[k]).1.toNat = ys.length - (es[k]).1.toNat + i by omega]
              exact ey
          · obtain ⟨k, hk⟩ := List.getElem?_of_mem hs
            have nk := sm_.nu _ ((mes _).mp hs).1
            have := at_ k _ hk
            rw [show ys.length + i - s.1.toNat = ys.length - s.1.toNat + i by omega] at hy
            rw [hy] at this
            exact hmn _ (List.mem_of_getElem? this)
        · have hys6 := s6 _ _ hys5
          wtm_at "ev_go"
          refine rd_extL hys6 hzs (by rw [List.length_map, List.length_map]; omega) ?_
          rw [← List.map_append]
          wtm_at "ev_go"
          have sm5 : Same H' H6 := s3.trans (s4.trans (s5.trans s6))
          refine ⟨_, ?_, _, _, _, _, _, _, _, _, _, ys ++ zs, rfl, (fr.same sm5).put, fun c hc => ?_, upd_same, near_more nys fun i y e => ?_, rfl⟩
          · rw [List.length_append, lzs]
            omega
          · by_cases z : c = ln
            · rw [z, upd_same]
              intro w
              cases w
            · rw [upd_ne z]
              exact (FrO.of (ow := ow) sm5).2 c (alv c hc)
          · obtain ⟨⟨s, hs, y0, e0, e1⟩, e2⟩ := ezs i y e
            have il : i < sz := by rw [← lzs]; exact (List.getElem?_eq_some_iff.mp e).1
            refine len_step sm_ nys (fun s hs c => ?_) ⟨s, ((mes s).mp hs).1, y0, e0, e1⟩ (fun s hs c y' ey => e2 s ((mes s).mpr ⟨hs, c⟩) y' ey)
            have := hmin' s ((mes s).mpr ⟨hs, c⟩)
            omega
    · wtm_at "ev_go"
      refine q H' ys ⟨fun c o e w => fr c o e fun z => ?_, alv⟩ (fun c e o => al c o e) (by omega) nys ⟨dx, ln, ls, fs, L, vf, vn, fr _ _ ha nlna, oa, on_, ol, nll, hys, fr _ _ hl nlsn, ⟨hM.1, fun i v e => ?_⟩, ?_, fun c h => alv c (al c h), lf, l1, l2, l3, l4, l5, l6, l7, lm⟩
      · rcases w with w | ⟨zs, rfl⟩
        · exact w (by rw [z]; exact on_)
        · rw [z, hn] at e
          cases e
      · obtain ⟨c, q, h1, h2, h3⟩ := hM.2 i v e
        exact ⟨c, q, h1, h2, fr _ _ h3 (ne_of h3 hn (fun z => by cases z))⟩
      · cases far with
        | none => exact ff
        | some fs2 =>
          obtain ⟨lf', lsn, e1, e2, e3, e4, e5, e6, e7, e8⟩ := ff
          exact ⟨lf', lsn, e1, e2, e3, e4, e5, e6, fr _ _ e7 e5, fr _ _ e8 e6⟩
end
end

section
structure TxM (K : PySem.W.Frag) (cS fF fL : Addr) : Prop where
  mF : Meth K cS "_find_far" fF
  mL : Meth K cS "_lengthen" fL

/-- so many days tell all: steps of their widths tell all others -/
def ReachOk (us ds : List (Int × Int)) (r : Nat) : Prop := 1 ≤ r ∧ r ≤ 100 ∧ ∃ us' ds' : List (Int × Int), (∀ s ∈ us', s ∈ us ∧ 1 ≤ s.1 ∧ s.1 ≤ r) ∧ (∀ s ∈ ds', s ∈ ds ∧ 1 ≤ s.1 ∧ s.1 ≤ r) ∧ ∀ n x, Wg us ds n x → ∃ y, y ≤ x ∧ Wg us' ds' n y
/-- a side at a tells, for n days, what G says -/
def SideAt (C : Addr) (H : Hp) (a : Addr) (ow : Addr → Prop) (G : Nat → Nat → Int → Prop) : Prop := ∃ (xs : List Int) (us ds : List (Int × Int)) (r W : Nat) (T : Int) (far : Option (List Int × List Int)), SideF C H a ow xs us r W T far ∧ SideM us ds r W T ∧ NearOk us ds r xs ∧
  (far = none → xs.length = r + 1 ∧ ∀ x ∈ xs, x.natAbs ≤ 10 ^ 9) ∧ (∀ fr sn, far = some (fr, sn) → FarOk us ds r W T fr sn) ∧ ∀ (n : Nat) (x : Int), Least us ds n x → G r n x
def spGr (cS : Addr) : Sp := fun vs H Q _ => ∃ (a : Addr) (n : Int) (ow : Addr → Prop) (G : Nat → Nat → Int → Prop), vs = [.ref a, .int n] ∧ 0 ≤ n ∧ Num n ∧ SideAt cS H a ow G ∧
  ∀ (x : Int) (H' : Hp) (ow' : Addr → Prop), (∃ r, G r n.toNat x) → FrO ow H H' → (∀ c, ow' c → ow c ∨ H c = none) → SideAt cS H' a ow' G → Q (.int x) H'
section
variable {P : Program} {w : World} {K : PySem.W.Frag} {mg : Str → Option Value} {base : Heap} {cS fF fL : Addr} {fdF fdL : FuncData}
set_option maxHeartbeats 4000000 in
theorem ok_sgreat {f : Addr} {fd : FuncData} (F : Fun K "greatest" "Side.greatest" s_Side_greatest f fd) (T : Blt mg) (S : TxS K cS) (M : TxM K cS fF fL) (GF : FnOk P w K mg base CX0 2 fF fdF ["self"] (spFind cS)) (bF : Binds K fdF ["self"] []) (GL : FnOk P w K mg base CX0 1 fL fdL ["self", "length"] (spLen cS)) (bL : Binds K fdL ["self", "length"] []) : FnOk P w K mg base CX0 3 f fd ["self", "length"] (spGr cS) := by
  refine F.ok sc_Side_greatest (fun vs H Q E h => ?_) (fun cdv A outer s H vs Q E hr h => ?_)
  · obtain ⟨a, n, ow, G, rfl, _⟩ := h
    rfl
  · obtain ⟨a, n, ow, G, rfl, n0, nn, ⟨xs, us, ds, r, W, tp, far, sf, sm_, no, hnone, hsome, hG⟩, q⟩ := h
    have sf0 := sf
    obtain ⟨dx, ln, ls, fs, L, vf, vn, ha, oa, on_, ol, nll, hn, hl, hM, ff, al, lf, l1, l2, l3, l4, l5, l6, l7, lm⟩ := sf
    refine ⟨_, (pss_cons (ps_if (pt_cmpR op_lt (pv 1) (pe_callB call_len_seq (by rfl) T.n_len PySem.boot_len (pa_cons (pe_fld (pv 0) rfl) pa_nil)) (nomark _)) 
        (pss_one (ps_ret (pe_ix ix_list (pe_fld (pv 0) rfl) (pv 1) (fun _ _ => rfl)))) pss_nil)
      (C8.pss_cut (ps_if (pt_cmpR op_isN (pe_fld (pv 0) rfl) pe_non (nomark _)) 
        (pss_one (ps_expr (pe_meth0 (pv 0) S.cls M.mF GF (hr.mono (by decide)) bF .nil pass0))) pss_nil)
      (pss_cons (ps_set (i := 2) sc_Side_greatest.nd rfl (Or.inl rfl) (pe_op op_mod (pv 1) (pe_fld (pv 0) rfl)))
      (pss_cons (ps_if (pt_cmpR op_ge (pv 1) (pe_ix ix_list (pe_fld (pv 0) rfl) (pv 2) (fun _ _ => rfl)) (nomark _)) 
        (pss_one (ps_ret (pe_op op_add (pe_ix ix_list (pe_fld (pv 0) rfl) (pv 2) (fun _ _ => rfl)) (pe_op op_mulW (pe_op op_fdivW (pv 1) (pe_fld (pv 0) rfl)) (pe_fld (pv 0) rfl))))) pss_nil)
      (pss_cons (ps_expr (pe_meth (pv 0) S.cls M.mL GL (hr.mono (by decide)) bL .nil pass0 (pa_cons (pv 1) pa_nil)))
      (pss_one (ps_ret (pe_ix ix_list (pe_fld (pv 0) rfl) (pv 1) (fun _ _ => rfl))))))))), ?_⟩
    wtm_at "ev_go"
    refine rd_fldA ha S.cls S.n1 l1 ?_
    wtm_at "ev_go"
    rw [List.length_map]
    have hW := sm_.hW
    refine rd_ite (fun c => ?_) (fun c => ?_)
    · have il : n.toNat < xs.length := by omega
      wtm_at "ev_go"
      refine rd_fldA ha S.cls S.n1 l1 ?_
      wtm_at "ev_go"
      refine rd_ixL (SqL.of hn) (atI_int n0 il) ?_
      have := no.2 _ _ (gt_at il)
      exact q _ H ow ⟨_, hG _ _ this⟩ (FrO.of (Same.refl _)) (fun c h => .inl h) ⟨xs, us, ds, r, W, tp, far, sf0, sm_, no, hnone, hsome, hG⟩
    · refine rd_cut (fun σ' H' => σ' = [some (.ref a), some (.int n), none] ∧ ∃ (ow' : Addr → Prop) (fr sn : List Int), FrO ow H H' ∧ (∀ c, ow' c → ow c ∨ H c = none) ∧ FarOk us ds r W tp fr sn ∧ SideF cS H' a ow' xs us r W tp (some (fr, sn))) ?_ ?_
      · wtm_at "ev_go"
        refine rd_fldA ha S.cls S.n6 l6 ?_
        wtm_at "ev_go"
        refine ⟨trivial, ?_⟩
        cases far with
        | none =>
          obtain ⟨rfl, rfl⟩ := ff
          obtain ⟨lx, bx⟩ := hnone rfl
          refine ⟨true, by rw [decide_eq_true rfl], ?_⟩
          rw [if_pos rfl]
          wtm_at "ev_go"
          refine ⟨a, dx, fs, rfl, ha, lm _ (by decide +kernel), ?_⟩
          wtm_at "ev_go"
          refine ⟨a, ow, xs, us, ds, r, W, tp, rfl, sf0, sm_, no, lx, bx, fun H' ow' fr sn fo gw fk sf' => ?_⟩
          wtm_at "ev_go"
          exact ⟨trivial, ow', fr, sn, fo, gw, fk, sf'⟩
        | some fs2 =>
          obtain ⟨fr, sn⟩ := fs2
          obtain ⟨lf', lsn, rfl, rfl, rest⟩ := ff
          refine ⟨false, by rw [decide_eq_false (fun z => by cases z)], ?_⟩
          rw [if_neg (by decide)]
          wtm_at "ev_go"
          exact ⟨trivial, ow, fr, sn, FrO.of (Same.refl _), fun c h => .inl h, hsome _ _ rfl, sf0⟩
      · rintro σ' H' ⟨rfl, ow', fr, sn, fo, gw, fk, sf'⟩
        have sf1 := sf'
        obtain ⟨dx, ln, ls, fs, L, vf, vn, ha, oa, on_, ol, nll, hn, hl, hM, ff, al, lf, l1, l2, l3, l4, l5, l6, l7, lm⟩ := sf'
        obtain ⟨lf', lsn, rfl, rfl, o1, o2, e1, e2, hfr, hsn⟩ := ff
        have rl : (n % (W : Int)).toNat < W := by
          have a1 := Int.emod_nonneg n (show (W : Int) ≠ 0 by omega)
          have a2 := Int.emod_lt_of_pos n (show (0 : Int) < W by omega)
          omega
        have rl0 := Int.emod_nonneg n (show (W : Int) ≠ 0 by omega)
        have ern : (n % (W : Int)).toNat = n.toNat % W := by
          obtain ⟨k, rfl⟩ : ∃ k : Nat, n = k := ⟨n.toNat, by omega⟩
          rw [← Int.natCast_emod, Int.toNat_natCast, Int.toNat_natCast]
        wtm_at "ev_go"
        refine rd_fldA ha S.cls S.n4 l4 ?_
        wtm_at "ev_go"
        refine rd_fldA ha S.cls S.n7 l7 ?_
        wtm_at "ev_go"
        refine rd_ixL (SqL.of hsn) (atI_int rl0 (by rw [fk.ls]; exact rl)) ?_
        wtm_at "ev_go"
        have esn := gt_at (ts := sn) (i := n.toNat % W) (by rw [fk.ls]; exact Nat.mod_lt _ hW)
        have efr := gt_at (ts := fr) (i := n.toNat % W) (by rw [fk.lf]; exact Nat.mod_lt _ hW)
        rw [ern]
        refine rd_ite (fun c2 => ?_) (fun c2 => ?_)
        · wtm_at "ev_go"
          refine rd_fldA ha S.cls S.n6 l6 ?_
          wtm_at "ev_go"
          refine rd_ixL (SqL.of hfr) (atI_int rl0 (by rw [fk.lf]; exact rl)) ?_
          wtm_at "ev_go"
          refine rd_fldA ha S.cls S.n4 l4 ?_
          have Wr := sm_.Wr
          have lr := sm_.lr
          refine rd_rI (wide_div (by omega) (show (W : Int).natAbs < 2 ^ 10 by omega) (by decide) (by decide)) ?_
          wtm_at "ev_go"
          refine rd_fldA ha S.cls S.n5 l5 ?_
          wtm_at "ev_go"
          have btp : tp.natAbs ≤ 10 ^ 6 := sm_.bu _ sm_.hs
          have ndiv : Num (n / (W : Int)) := Nat.lt_of_le_of_lt (Int.natAbs_ediv_le_natAbs n W) nn
          refine rd_rI (Num.mul ndiv (num15 (by omega))) ?_
          wtm_at "ev_go"
          have l := fk.far n.toNat _ _ efr esn (by omega)
          have e : ((n.toNat / W : Nat) : Int) = n / (W : Int) := by
            rw [Int.natCast_ediv, Int.toNat_of_nonneg n0]
          rw [e, ← ern] at l
          exact q _ H' ow' ⟨_, hG _ _ l⟩ fo gw ⟨xs, us, ds, r, W, tp, some (fr, sn), sf1, sm_, no, (fun z => by cases z), (fun _ _ e => by cases e; exact fk), hG⟩
        · wtm_at "ev_go"
          have bs := fk.low _ (List.mem_of_getElem? esn)
          refine ⟨a, dx, fs, rfl, ha, lm _ (by decide +kernel), ?_⟩
          wtm_at "ev_go"
          refine ⟨a, n, ow', xs, us, ds, r, W, tp, some (fr, sn), rfl, by omega, sf1, sm_, no, fun H2 ys fo2 _ lt ny sf2 => ?_⟩
          have sf3 := sf2
          obtain ⟨dx, ln, ls, fs, L, vf, vn, ha, oa, on_, ol, nll, hn, hl, hM, ff, al, lf, l1, l2, l3, l4, l5, l6, l7, lm⟩ := sf2
          have il : n.toNat < ys.length := by omega
          wtm_at "ev_go"
          refine rd_fldA ha S.cls S.n1 l1 ?_
          wtm_at "ev_go"
          refine rd_ixL (SqL.of hn) (atI_int n0 il) ?_
          have := ny.2 _ _ (gt_at il)
          exact q _ H2 ow' ⟨_, hG _ _ this⟩ (fo.trans fo2 gw) gw ⟨ys, us, ds, r, W, tp, some (fr, sn), sf3, sm_, ny, (fun z => by cases z), (fun _ _ e => by cases e; exact fk), hG⟩
end
end

section
/-! ### the sums of a book -/
structure TxU (K : PySem.W.Frag) (mg : Str → Option Value) (cM cS fS fM fG : Addr) : Prop where
  cls : Cls K cM
  n1 : NoAttr K cM "_up"
  n2 : NoAttr K cM "_down"
  n3 : NoAttr K cM "_tight"
  mkS : Mk K cS fS
  gS : mg "Side" = some (.ref cS)
  mkM : Mk K cM fM
  gM : mg "Sums" = some (.ref cM)
  clsS : Cls K cS
  mG : Meth K cS "greatest" fG
theorem SideF.keep {C : Addr} {H H' : Hp} {a : Addr} {ow : Addr → Prop} {xs : List Int} {vs : List (Int × Int)} {r W : Nat} {T : Int} {far : Option (List Int × List Int)} (h : SideF C H a ow xs vs r W T far) (k : ∀ c o, H c = some o → (ow c ∨ ∃ xs, o = .tup xs) → H' c = some o) : SideF C H' a ow xs vs r W T far := by
  obtain ⟨dx, ln, ls, fs, L, vf, vn, ha, oa, on_, ol, nll, hn, hl, hM, ff, al, rest⟩ := h
  refine ⟨dx, ln, ls, fs, L, vf, vn, k _ _ ha (.inl oa), oa, on_, ol, nll, k _ _ hn (.inl on_), k _ _ hl (.inl ol), ⟨hM.1, fun i v e => ?_⟩, ?_, fun c h => ?_, rest⟩
  · obtain ⟨c, q, h1, h2, h3⟩ := hM.2 i v e
    exact ⟨c, q, h1, h2, k _ _ h3 (.inr ⟨_, rfl⟩)⟩
  · cases far with
    | none => exact ff
    | some fs2 =>
      obtain ⟨lf', lsn, e1, e2, e3, e4, e5, e6, e7, e8⟩ := ff
      exact ⟨lf', lsn, e1, e2, e3, e4, e5, e6, k _ _ e7 (.inl e3), k _ _ e8 (.inl e4)⟩
  · cases z : H c with
    | none => exact absurd z (al c h)
    | some o => rw [k _ _ z (.inl h)]; intro w; cases w
theorem SideAt.keep {C : Addr} {H H' : Hp} {a : Addr} {ow : Addr → Prop} {G : Nat → Nat → Int → Prop} (h : SideAt C H a ow G) (k : ∀ c o, H c = some o → (ow c ∨ ∃ xs, o = .tup xs) → H' c = some o) : SideAt C H' a ow G := by
  obtain ⟨xs, us, ds, r, W, T, far, sf, rest⟩ := h
  exact ⟨xs, us, ds, r, W, T, far, sf.keep k, rest⟩
theorem SideAt.alive {C : Addr} {H : Hp} {a : Addr} {ow : Addr → Prop} {G : Nat → Nat → Int → Prop} (h : SideAt C H a ow G) : ∀ c, ow c → H c ≠ none := by
  obtain ⟨xs, us, ds, r, W, T, far, ⟨dx, ln, ls, fs, L, vf, vn, ha, oa, on_, ol, nll, hn, hl, hM, ff, al, rest⟩, rest2⟩ := h
  exact al
def sumsField (m : Str) : Bool := m == ("_up" : Str) || m == ("_down" : Str) || m == ("_tight" : Str)
/-- at m: the sums by these steps; ow: what they own -/
def SumsAt (cM cS : Addr) (H : Hp) (m : Addr) (ow : Addr → Prop) (us ds : List (Int × Int)) : Prop := ∃ (dx u d : Addr) (fs : List (Str × V)) (vt : V) (ou od : Addr → Prop), H m = some (.ins cM dx fs) ∧ (∀ c, ow c ↔ c = m ∨ ou c ∨ od c) ∧ (∀ c, ou c → ¬ od c) ∧ ¬ ou m ∧ ¬ od m ∧
  fs.lookup ("_up" : Str) = some (.ref u) ∧ fs.lookup ("_down" : Str) = some (.ref d) ∧ fs.lookup ("_tight" : Str) = some vt ∧ (∀ k : Str, sumsField k = false → fs.lookup k = none) ∧ SideAt cS H u ou (fun r n x => ReachOk us ds r ∧ Least us ds n x) ∧ SideAt cS H d od (fun r n x => ReachOk us ds r ∧ Least ds us n x)
theorem SumsAt.alive {cM cS m : Addr} {H : Hp} {ow : Addr → Prop} {us ds : List (Int × Int)} (h : SumsAt cM cS H m ow us ds) : ∀ c, ow c → H c ≠ none := by
  obtain ⟨dx, u, d, fs, vt, ou, od, hm, how, dj, nu, nd, l1, l2, l3, l4, su, sd⟩ := h
  intro c hc
  rcases (how c).mp hc with rfl | h | h
  · rw [hm]; intro z; cases z
  · exact su.alive c h
  · exact sd.alive c h
theorem SumsAt.keep {cM cS m : Addr} {H H' : Hp} {ow : Addr → Prop} {us ds : List (Int × Int)} (h : SumsAt cM cS H m ow us ds) (k : ∀ c o, H c = some o → (ow c ∨ ∃ xs, o = .tup xs) → H' c = some o) : SumsAt cM cS H' m ow us ds := by
  obtain ⟨dx, u, d, fs, vt, ou, od, hm, how, dj, nu, nd, l1, l2, l3, l4, su, sd⟩ := h
  exact ⟨dx, u, d, fs, vt, ou, od, k _ _ hm (.inl ((how m).mpr (.inl rfl))), how, dj, nu, nd, l1, l2, l3, l4, su.keep fun c o e w => k c o e (w.imp (fun h => (how c).mpr (.inr (.inl h))) id), sd.keep fun c o e w => k c o e (w.imp (fun h => (how c).mpr (.inr (.inr h))) id)⟩
def spSG (cM cS : Addr) : Sp := fun vs H Q _ => ∃ (m : Addr) (n : Int) (ow : Addr → Prop) (us ds : List (Int × Int)), vs = [.ref m, .int n] ∧ 0 ≤ n ∧ Num n ∧ SumsAt cM cS H m ow us ds ∧
  ∀ (x : Int) (H' : Hp) (ow' : Addr → Prop), Least us ds n x → FrO ow H H' → (∀ c, ow' c → ow c ∨ H c = none) → SumsAt cM cS H' m ow' us ds → Q (.int x) H'
def spSL (cM cS : Addr) : Sp := fun vs H Q _ => ∃ (m : Addr) (n : Int) (ow : Addr → Prop) (us ds : List (Int × Int)), vs = [.ref m, .int n] ∧ 0 ≤ n ∧ Num n ∧ SumsAt cM cS H m ow us ds ∧
  ∀ (x : Int) (H' : Hp) (ow' : Addr → Prop), Least ds us n x → FrO ow H H' → (∀ c, ow' c → ow c ∨ H c = none) → SumsAt cM cS H' m ow' us ds → Q (.int (-x)) H'
/-- one side asked, the other one stays -/
theorem sums_up {cM cS m : Addr} {H H' : Hp} {dx u d : Addr} {fs : List (Str × V)} {vt : V} {ow ou od ou' : Addr → Prop} {us ds : List (Int × Int)} (hm : H m = some (.ins cM dx fs)) (how : ∀ c, ow c ↔ c = m ∨ ou c ∨ od c) (dj : ∀ c, ou c → ¬ od c) (nu : ¬ ou m) (nd : ¬ od m)
    (l1 : fs.lookup ("_up" : Str) = some (.ref u)) (l2 : fs.lookup ("_down" : Str) = some (.ref d)) (l3 : fs.lookup ("_tight" : Str) = some vt) (l4 : ∀ k : Str, sumsField k = false → fs.lookup k = none) (sd : SideAt cS H d od (fun r n x => ReachOk us ds r ∧ Least ds us n x))
    (fo : FrO ou H H') (gw : ∀ c, ou' c → ou c ∨ H c = none) (su' : SideAt cS H' u ou' (fun r n x => ReachOk us ds r ∧ Least us ds n x)) : FrO ow H H' ∧ ∃ ow', (∀ c, ow' c → ow c ∨ H c = none) ∧ SumsAt cM cS H' m ow' us ds := by
  refine ⟨⟨fun c o e w => fo.1 c o e (w.imp (fun h z => h ((how c).mpr (.inr (.inl z)))) id), fo.2⟩, fun c => c = m ∨ ou' c ∨ od c, fun c h => ?_, dx, u, d, fs, vt, ou', od, fo.1 _ _ hm (.inl nu), fun c => Iff.rfl, fun c h z => ?_, fun h => ?_, nd, l1, l2, l3, l4, su', sd.keep fun c o e w => fo.1 c o e (w.imp (fun h z => dj c z h) id)⟩
  · rcases h with h | h | h
    · exact .inl ((how c).mpr (.inl h))
    · exact (gw c h).imp (fun h => (how c).mpr (.inr (.inl h))) id
    · exact .inl ((how c).mpr (.inr (.inr h)))
  · rcases gw c h with h | h
    · exact dj c h z
    · exact sd.alive c z h
  · rcases gw m h with h | h
    · exact nu h
    · rw [hm] at h
      cases h
theorem sums_down {cM cS m : Addr} {H H' : Hp} {dx u d : Addr} {fs : List (Str × V)} {vt : V} {ow ou od od' : Addr → Prop} {us ds : List (Int × Int)} (hm : H m = some (.ins cM dx fs)) (how : ∀ c, ow c ↔ c = m ∨ ou c ∨ od c) (dj : ∀ c, ou c → ¬ od c) (nu : ¬ ou m) (nd : ¬ od m)
    (l1 : fs.lookup ("_up" : Str) = some (.ref u)) (l2 : fs.lookup ("_down" : Str) = some (.ref d)) (l3 : fs.lookup ("_tight" : Str) = some vt) (l4 : ∀ k : Str, sumsField k = false → fs.lookup k = none) (su : SideAt cS H u ou (fun r n x => ReachOk us ds r ∧ Least us ds n x))
    (fo : FrO od H H') (gw : ∀ c, od' c → od c ∨ H c = none) (sd' : SideAt cS H' d od' (fun r n x => ReachOk us ds r ∧ Least ds us n x)) : FrO ow H H' ∧ ∃ ow', (∀ c, ow' c → ow c ∨ H c = none) ∧ SumsAt cM cS H' m ow' us ds := by
  refine ⟨⟨fun c o e w => fo.1 c o e (w.imp (fun h z => h ((how c).mpr (.inr (.inr z)))) id), fo.2⟩, fun c => c = m ∨ ou c ∨ od' c, fun c h => ?_, dx, u, d, fs, vt, ou, od', fo.1 _ _ hm (.inl nd), fun c => Iff.rfl, fun c z h => ?_, nu, fun h => ?_, l1, l2, l3, l4, su.keep fun c o e w => fo.1 c o e (w.imp (fun h z => dj c h z) id), sd'⟩
  · rcases h with h | h | h
    · exact .inl ((how c).mpr (.inl h))
    · exact .inl ((how c).mpr (.inr (.inl h)))
    · exact (gw c h).imp (fun h => (how c).mpr (.inr (.inr h))) id
  · rcases gw c h with h | h
    · exact dj c z h
    · exact su.alive c z h
  · rcases gw m h with h | h
    · exact nd h
    · rw [hm] at h
      cases h

def spSI (cM : Addr) : Sp := fun vs H Q _ => ∃ (a dx u d : Addr), vs = [.ref a, .ref u, .ref d] ∧ H a = some (.ins cM dx []) ∧ ∀ H', H' = upd H a (.ins cM dx (putF "_tight" .non (putF "_down" (.ref d) (putF "_up" (.ref u) [])))) → Q .non H'
section
variable {P : Program} {w : World} {K : PySem.W.Frag} {mg : Str → Option Value} {base : Heap} {cM cS fS fM fG : Addr} {fdG : FuncData}
theorem ok_smi {f : Addr} {fd : FuncData} (F : Fun K "__init__" "Sums.__init__" s_Sums_init f fd) (U : TxU K mg cM cS fS fM fG) : FnOk P w K mg base CX0 1 f fd ["self", "up", "down"] (spSI cM) := by
  refine F.ok sc_Sums_init (fun vs H Q E h => ?_) (fun cdv A outer s H vs Q E hr h => ?_)
  · obtain ⟨a, dx, u, d, rfl, _⟩ := h
    rfl
  · obtain ⟨a, dx, u, d, rfl, ha, q⟩ := h
    refine ⟨_, (pss_cons (ps_fld (pv 0) (pv 1) rfl)
      (pss_cons (ps_fld (pv 0) (pv 2) rfl)
      (pss_one (ps_fld (pv 0) pe_non rfl)))), ?_⟩
    wtm_at "ev_go"
    refine rd_sfldA ha U.cls U.n1 (by decide) ?_
    wtm_at "ev_go"
    refine rd_sfldA upd_same U.cls U.n2 (Nat.lt_of_le_of_lt (len_put _) (by decide)) ?_
    wtm_at "ev_go"
    refine rd_sfldA upd_same U.cls U.n3 (Nat.lt_of_le_of_lt (len_put' (len_put' len_nil)) (by decide)) ?_
    wtm_at "ev_go"
    exact q _ rfl
theorem ok_sgr {f : Addr} {fd : FuncData} (F : Fun K "greatest" "Sums.greatest" s_Sums_greatest f fd) (U : TxU K mg cM cS fS fM fG) (GG : FnOk P w K mg base CX0 3 fG fdG ["self", "length"] (spGr cS)) (bG : Binds K fdG ["self", "length"] []) : FnOk P w K mg base CX0 4 f fd ["self", "length"] (spSG cM cS) := by
  refine F.ok sc_Sums_greatest (fun vs H Q E h => ?_) (fun cdv A outer s H vs Q E hr h => ?_)
  · obtain ⟨m, n, ow, us, ds, rfl, _⟩ := h
    rfl
  · obtain ⟨m, n, ow, us, ds, rfl, n0, nn, ⟨dx, u, d, fs, vt, ou, od, hm, how, dj, nu, nd, l1, l2, l3, l4, su, sd⟩, q⟩ := h
    refine ⟨_, (pss_one (ps_ret (pe_meth (pe_fld (pv 0) rfl) U.clsS U.mG GG (hr.mono (by decide)) bG .nil pass0 (pa_cons (pv 1) pa_nil)))), ?_⟩
    have su0 := su
    obtain ⟨xs, us', ds', r, W, T, far, ⟨dx2, ln, ls, fs2, L, vf, vn, ha, oa, on_, ol, nll, hn, hl, hM, ff, al, lf, k1, k2, k3, k4, k5, k6, k7, lm⟩, rest⟩ := su
    wtm_at "ev_go"
    refine rd_fldA hm U.cls U.n1 l1 ?_
    refine ⟨u, dx2, fs2, rfl, ha, lm _ (by decide +kernel), ?_⟩
    wtm_at "ev_go"
    refine ⟨u, n, ou, _, rfl, n0, nn, su0, fun x H' ou' hx fo gw su' => ?_⟩
    obtain ⟨f1, ow', g1, s1⟩ := sums_up hm how dj nu nd l1 l2 l3 l4 sd fo gw su'
    obtain ⟨_, _, hx⟩ := hx
    rw [Int.toNat_of_nonneg n0] at hx
    exact q x H' ow' hx f1 g1 s1
theorem ok_sle {f : Addr} {fd : FuncData} (F : Fun K "least" "Sums.least" s_Sums_least f fd) (U : TxU K mg cM cS fS fM fG) (GG : FnOk P w K mg base CX0 3 fG fdG ["self", "length"] (spGr cS)) (bG : Binds K fdG ["self", "length"] []) : FnOk P w K mg base CX0 4 f fd ["self", "length"] (spSL cM cS) := by
  refine F.ok sc_Sums_least (fun vs H Q E h => ?_) (fun cdv A outer s H vs Q E hr h => ?_)
  · obtain ⟨m, n, ow, us, ds, rfl, _⟩ := h
    rfl
  · obtain ⟨m, n, ow, us, ds, rfl, n0, nn, ⟨dx, u, d, fs, vt, ou, od, hm, how, dj, nu, nd, l1, l2, l3, l4, su, sd⟩, q⟩ := h
    refine ⟨_, (pss_one (ps_ret (pe_un un_neg (pe_meth (pe_fld (pv 0) rfl) U.clsS U.mG GG (hr.mono (by decide)) bG .nil pass0 (pa_cons (pv 1) pa_nil))))), ?_⟩
    have sd0 := sd
    obtain ⟨xs, us', ds', r, W, T, far, ⟨dx2, ln, ls, fs2, L, vf, vn, ha, oa, on_, ol, nll, hn, hl, hM, ff, al, lf, k1, k2, k3, k4, k5, k6, k7, lm⟩, rest⟩ := sd
    wtm_at "ev_go"
    refine rd_fldA hm U.cls U.n2 l2 ?_
    refine ⟨d, dx2, fs2, rfl, ha, lm _ (by decide +kernel), ?_⟩
    wtm_at "ev_go"
    refine ⟨d, n, od, _, rfl, n0, nn, sd0, fun x H' od' hx fo gw sd' => ?_⟩
    obtain ⟨f1, ow', g1, s1⟩ := sums_down hm how dj nu nd l1 l2 l3 l4 su fo gw sd'
    obtain ⟨_, _, hx⟩ := hx
    rw [Int.toNat_of_nonneg n0] at hx
    wtm_at "ev_go"
    exact q x H' ow' hx f1 g1 s1
end
end

section
def upS (B : List R3) : List (Int × Int) := B.map fun r => (r.1, r.2.2)
def dnS (B : List R3) : List (Int × Int) := B.map fun r => (r.1, -r.2.1)
section
variable {K : PySem.W.Frag} {σ : L2.St} {H : Hp}
/-- [(.., ..) for w, l, m in rules], a list of steps -/
theorem rd_lcR3 {a : Addr} {L : List V} {ms : List R3} {m s1 s2 s3 : Nat} {vs : List Nat} {te : TE} {Q : VK} (f : R3 → Int × Int) (hL : SqL K H a L) (hM : RlR H L ms) (hn : L.length ≤ 1000) (hm : m = 3)
    (hw : ∀ x y z : V, L2.wipe ((((L2.wipe σ vs).set s1 (some x)).set s2 (some y)).set s3 (some z)) vs = L2.wipe σ vs)
    (he : ∀ (r : R3) (H' : Hp) (Q' : VK), r ∈ ms → Same H H' → (∀ p, H' p = none → Q' (.ref p) (upd H' p (.tup [.int (f r).1, .int (f r).2]))) → te ((((L2.wipe σ vs).set s1 (some (.int r.1))).set s2 (some (.int r.2.1))).set s3 (some (.int r.2.2))) H' Q')
    (q : ∀ (l : Addr) (R : List V) (H' : Hp), Same H H' → H l = none → H' l = some (.lst R) → MvL H' R (ms.map f) → Q (.ref l) H') :
    tLc (fun _ H' R => R (Itl K a) H') (gTup K m (gCons (gName s1) (gCons (gName s2) (gCons (gName s3) gNil)))) tYes te vs σ H Q := fun l hl => by
  subst hm
  refine lc_list (xs := L) (fun i H' => ∃ acc, Same H H' ∧ H' l = some (.lst acc) ∧ MvL H' acc ((ms.take i).map f)) ⟨[], Same.new hl, upd_same, rfl, fun i v e => by simp at e⟩ (fun i H' _ h => by obtain ⟨_, s, _⟩ := h; exact sqL_keep hL s) (fun i x H' hx h => ?_) (fun H' h => ?_)
  · obtain ⟨acc, sm, hacc, hA⟩ := h
    obtain ⟨b, r, rfl, hr, hb, _⟩ := hM.2 i x hx
    refine ⟨b, _, rfl, SqT.of (sm _ _ hb), rfl, _, _, rfl, _, _, rfl, _, _, rfl, rfl, hw _ _ _, ?_⟩
    dsimp only [tYes]
    rw [if_pos rfl]
    refine he r H' _ (List.mem_of_getElem? hr) sm (fun p hp => ?_)
    have npl : l ≠ p := ne_of_none hacc hp
    refine ⟨acc, lk_ne npl hacc, ?_, acc ++ [.ref p], fun c o z => ?_, upd_same, ?_⟩
    · rw [hA.1, List.length_map, List.length_take, sizeLine_eq]
      have := hM.1
      omega
    · rw [upd_ne (ne_of_none z hl), upd_ne (ne_of_none (sm _ _ z) hp)]
      exact sm _ _ z
    · have e : (ms.take (i + 1)).map f = (ms.take i).map f ++ [f r] := by rw [List.take_add_one, hr, List.map_append]; rfl
      rw [e]
      have keep : ∀ (c : Addr) (u v : Int), H' c = some (.tup [.int u, .int v]) → upd (upd H' p (.tup [.int (f r).1, .int (f r).2])) l (.lst (acc ++ [.ref p])) c = some (.tup [.int u, .int v]) := fun c u v z => lk_ne (ne_of z hacc (fun w => by cases w)) (lk_ne (ne_of_none z hp) z)
      refine MvL.append ⟨hA.1, fun j v ej => ?_⟩ ⟨rfl, fun j v ej => ?_⟩
      · obtain ⟨c, s, h1, h2, h3⟩ := hA.2 j v ej
        exact ⟨c, s, h1, h2, keep _ _ _ h3⟩
      · cases j with
        | zero =>
          cases ej
          exact ⟨p, f r, rfl, rfl, lk_ne (Ne.symm npl) upd_same⟩
        | succ j => cases ej
  · obtain ⟨acc, sm, hacc, hA⟩ := h
    rw [hM.1, List.take_length] at hA
    exact q l acc H' sm hl hacc hA
end
def spSumsOf (K : PySem.W.Frag) (cM cS : Addr) : Sp := fun vs H Q _ => ∃ (b : Addr) (L : List V) (lo hi : Int) (rs : List R3), vs = [.ref b] ∧ H b = some (.lst L) ∧ RlR H L ((1, lo, hi) :: rs) ∧ NoConf ((1, lo, hi) :: rs) ∧ rs.length ≤ 30 ∧ (∀ r ∈ (1, lo, hi) :: rs, 1 ≤ r.1 ∧ r.1 ≤ 100 ∧ r.2.1.natAbs ≤ 10 ^ 6 ∧ r.2.2.natAbs ≤ 10 ^ 6) ∧
  ∀ (m : Addr) (H' : Hp) (ow : Addr → Prop), Same H H' → (∀ c, ow c → H c = none) → SumsAt cM cS H' m ow (upS ((1, lo, hi) :: rs)) (dnS ((1, lo, hi) :: rs)) → Q (.ref m) H'
section
variable {P : Program} {w : World} {K : PySem.W.Frag} {mg : Str → Option Value} {base : Heap} {cM cS fS fM fG : Addr} {fdS fdM : FuncData}
set_option maxHeartbeats 4000000 in
theorem ok_sums_of {f : Addr} {fd : FuncData} (F : Fun K "sums_of" "sums_of" s_sums_of f fd) (T : Blt mg) (U : TxU K mg cM cS fS fM fG) (GN : CalN P w K mg base 2 "needed_steps" spNeeded) (GNE : CalN P w K mg base 2 "near_sums" spNear)
    (GSI : FnOk P w K mg base CX0 2 fS fdS ["self", "near", "steps"] (spSide cS)) (bSI : Binds K fdS ["self", "near", "steps"] []) (GMI : FnOk P w K mg base CX0 1 fM fdM ["self", "up", "down"] (spSI cM)) (bMI : Binds K fdM ["self", "up", "down"] []) : FnOk P w K mg base CX0 4 f fd ["bounds"] (spSumsOf K cM cS) := by
  refine F.ok sc_sums_of (fun vs H Q E h => ?_) (fun cdv A outer s H vs Q E hr h => ?_)
  · obtain ⟨b, L, lo, hi, rs, rfl, _⟩ := h
    rfl
  · obtain ⟨b, L, lo, hi, rs, rfl, hb, hR, nc, lrs, bnd, q⟩ := h
    refine ⟨_, (pss_cons (ps_asg (pe_ix ix_list (pv 0) pe_int (fun _ _ => rfl)) (pg_tup rfl (pgs_cons (pg_name (i := 1) sc_sums_of.nd rfl (Or.inl rfl)) (pgs_cons (pg_name (i := 2) sc_sums_of.nd rfl (Or.inl rfl)) (pgs_cons (pg_name (i := 3) sc_sums_of.nd rfl (Or.inl rfl)) pgs_nil)))))
      (pss_cons (ps_set (i := 4) sc_sums_of.nd rfl (Or.inl rfl) (pe_cN GN hr (by decide) (by rfl) (pa_cons (pe_lc (own := [("width", 8), ("_", 1), ("most", 9)]) (g := gTup K 3 (gCons (gName 8) (gCons (gName 1) (gCons (gName 9) gNil)))) (tt := tYes) rfl sc_sums_of.nd (pi_list (pv 0)) (blkOk_by (N := ["bounds", "_", "low", "high", "ups", "downs", "near", "reach", "width", "most", "least"]) (sc := defScope s_sums_of) (by decide +kernel)) (fun _ _ _ _ _ => pg_tup rfl (pgs_cons (pg_name (i := 8) sc_sums_of.nd rfl (Or.inl rfl)) (pgs_cons (pg_name (i := 1) sc_sums_of.nd rfl (Or.inl rfl)) (pgs_cons (pg_name (i := 9) sc_sums_of.nd rfl (Or.inl rfl)) pgs_nil)))) (fun _ _ _ _ _ => pts_nil) (fun _ _ _ _ _ => (pe_tup (pa_cons (pv 8) (pa_cons (pv 9) pa_nil))))) (pa_cons (pe_un un_neg (pv 2)) pa_nil))))
      (pss_cons (ps_set (i := 5) sc_sums_of.nd rfl (Or.inl rfl) (pe_cN GN hr (by decide) (by rfl) (pa_cons (pe_lc (own := [("width", 8), ("least", 10), ("_", 1)]) (g := gTup K 3 (gCons (gName 8) (gCons (gName 10) (gCons (gName 1) gNil)))) (tt := tYes) rfl sc_sums_of.nd (pi_list (pv 0)) (blkOk_by (N := ["bounds", "_", "low", "high", "ups", "downs", "near", "reach", "width", "most", "least"]) (sc := defScope s_sums_of) (by decide +kernel)) (fun _ _ _ _ _ => pg_tup rfl (pgs_cons (pg_name (i := 8) sc_sums_of.nd rfl (Or.inl rfl)) (pgs_cons (pg_name (i := 10) sc_sums_of.nd rfl (Or.inl rfl)) (pgs_cons (pg_name (i := 1) sc_sums_of.nd rfl (Or.inl rfl)) pgs_nil)))) (fun _ _ _ _ _ => pts_nil) (fun _ _ _ _ _ => (pe_tup (pa_cons (pv 8) (pa_cons (pe_un un_neg (pv 10)) pa_nil))))) (pa_cons (pv 3) pa_nil))))
      (pss_cons (ps_set (i := 6) sc_sums_of.nd rfl (Or.inl rfl) (pe_cN GNE hr (by decide) (by rfl) (pa_cons (pv 4) (pa_cons (pv 5) pa_nil))))
      (pss_cons (ps_set (i := 7) sc_sums_of.nd rfl (Or.inl rfl) (pe_op op_fdivW (pe_callB call_len_seq (by rfl) T.n_len PySem.boot_len (pa_cons (pv 6) pa_nil)) pe_int))
      (pss_one (ps_ret (pe_make U.mkM GMI (hr.mono (by decide)) (by rfl) U.gM bMI .nil pass0 (pa_cons (pe_make U.mkS GSI (hr.mono (by decide)) (by rfl) U.gS bSI .nil pass0 (pa_cons (pe_slice sl_list (pv 6) (po_some (pv 7)) po_none) (pa_cons (pv 4) pa_nil))) (pa_cons (pe_make U.mkS GSI (hr.mono (by decide)) (by rfl) U.gS bSI .nil pass0 (pa_cons (pe_sl3 (pv 6) (po_some (pv 7)) (po_some (pe_un un_neg pe_int))) (pa_cons (pv 5) pa_nil))) pa_nil)))))))))), ?_⟩
    obtain ⟨v0, L0, rfl⟩ : ∃ v L0, L = v :: L0 := by
      cases L with
      | nil => have := hR.1; cases this
      | cons v L0 => exact ⟨v, L0, rfl⟩
    obtain ⟨a0, r0, rfl, e0, h0, _⟩ := hR.2 0 _ rfl
    cases e0
    have lL : (V.ref a0 :: L0).length = rs.length + 1 := hR.1
    wtm_at "ev_go"
    refine rd_ixL (SqL.of hb) (L2.atI_nat (j := 0) rfl) ?_
    wtm_at "ev_go"
    have bu0 : ∀ m ∈ upS ((1, lo, hi) :: rs), 1 ≤ m.1 ∧ m.1 ≤ 100 ∧ m.2.natAbs ≤ 10 ^ 6 := fun m h => by
      obtain ⟨r, hr, rfl⟩ := List.mem_map.mp h
      have := bnd r hr
      exact ⟨this.1, this.2.1, this.2.2.2⟩
    have bd0 : ∀ m ∈ dnS ((1, lo, hi) :: rs), 1 ≤ m.1 ∧ m.1 ≤ 100 ∧ m.2.natAbs ≤ 10 ^ 6 := fun m h => by
      obtain ⟨r, hr, rfl⟩ := List.mem_map.mp h
      have := bnd r hr
      exact ⟨this.1, this.2.1, by show (-r.2.1).natAbs ≤ _; rw [Int.natAbs_neg]; exact this.2.2.1⟩
    have bl := bnd _ List.mem_cons_self
    have lu0 : (upS ((1, lo, hi) :: rs)).length = rs.length + 1 := by unfold upS; rw [List.length_map]; rfl
    have ld0 : (dnS ((1, lo, hi) :: rs)).length = rs.length + 1 := by unfold dnS; rw [List.length_map]; rfl
    have rows0 : ∀ s ∈ dnS ((1, lo, hi) :: rs), ∀ u ∈ upS ((1, lo, hi) :: rs), 0 ≤ s.2 * u.1 + u.2 * s.1 := fun s hs u hu => by
      obtain ⟨r, hr, rfl⟩ := List.mem_map.mp hs
      obtain ⟨t, ht, rfl⟩ := List.mem_map.mp hu
      have := nc r hr t ht
      show 0 ≤ -r.2.1 * t.1 + t.2.2 * r.1
      rw [Int.neg_mul]
      omega
    refine rd_lcR3 (fun r => (r.1, r.2.2)) (SqL.of hb) hR (by omega) rfl (fun x y z => rfl) (fun r H' Q' hr sm fin => ?_) (fun l1 R1 H1 s1 hl1 hR1 hM1 => ?_)
    · wtm_at "ev_go"
      exact fin
    wtm_at "ev_go"
    refine ⟨l1, R1, upS ((1, lo, hi) :: rs), hi, -lo, rfl, hR1, hM1, rfl, by omega, bu0, by rw [Int.natAbs_neg]; exact bl.2.2.1, fun u Ru H2 W1 T1 us s2 hu hRu hMu tu niu => ?_⟩
    have s12 := s1.trans s2
    wtm_at "ev_go"
    refine rd_lcR3 (fun r => (r.1, -r.2.1)) (SqL.of (s12 _ _ hb)) (hR.mono s12) (by omega) rfl (fun x y z => rfl) (fun r H' Q' hr sm fin => ?_) (fun l3 R3 H3 s3 hl3 hR3 hM3 => ?_)
    · wtm_at "ev_go"
      exact fin
    have s13 := s12.trans s3
    wtm_at "ev_go"
    refine ⟨l3, R3, dnS ((1, lo, hi) :: rs), -lo, hi, rfl, hR3, hM3, rfl, by omega, bd0, bl.2.2.2, fun d Rd H4 W2 T2 ds s4 hd hRd hMd td nid => ?_⟩
    have s14 := s13.trans s4
    have bu : ∀ m ∈ us, 1 ≤ m.1 ∧ m.1 ≤ 100 ∧ m.2.natAbs ≤ 10 ^ 6 := fun m h => bu0 m (niu.a m h)
    have bd : ∀ m ∈ ds, 1 ≤ m.1 ∧ m.1 ≤ 100 ∧ m.2.natAbs ≤ 10 ^ 6 := fun m h => bd0 m (nid.a m h)
    obtain ⟨su, msu, wsu, vsu⟩ := niu.b
    obtain ⟨sd, msd, wsd, vsd⟩ := nid.b
    have iu : ((1 : Int), su.2) ∈ us := by rw [← wsu]; exact msu
    have id_ : ((1 : Int), sd.2) ∈ ds := by rw [← wsd]; exact msd
    have lus : us.length ≤ 40 := by have := niu.l; omega
    have lds : ds.length ≤ 40 := by have := nid.l; omega
    have rows : ∀ s ∈ ds, ∀ u ∈ us, 0 ≤ s.2 * u.1 + u.2 * s.1 := fun s hs u hu => rows0 s (nid.a s hs) u (niu.a u hu)
    have rowsS : ∀ s ∈ us, ∀ u ∈ ds, 0 ≤ s.2 * u.1 + u.2 * s.1 := fun s hs u hu => by have := rows u hu s hs; omega
    have bw1 := bu _ niu.c
    have bw2 := bd _ nid.c
    have kept : Kept (upS ((1, lo, hi) :: rs)) (dnS ((1, lo, hi) :: rs)) us ds := kept_of niu nid (by have := bw1.1; exact this) (by have := bw2.1; exact this) (Int.le_refl _) (Int.le_refl _) (fun m h => by have := bu0 m h; omega) (fun m h => by have := bd0 m h; omega)
    wtm_at "ev_go"
    refine ⟨u, d, Ru, Rd, us, ds, su.2, sd.2, rfl, (s3.trans s4) _ _ hRu, hMu.mono (s3.trans s4), hRd, hMd, iu, id_, lus, lds, fun s h => (List.mem_append.mp h).elim (bu s) (bd s), rows, fun r nl H5 xs s5 hnl hxs wid wex lx lst => ?_⟩
    have s15 := s14.trans s5
    have nu : ∀ s ∈ us, 1 ≤ s.1 ∧ s.1 ≤ r := fun s h => ⟨(bu s h).1, wid s (List.mem_append_left _ h)⟩
    have nd : ∀ s ∈ ds, 1 ≤ s.1 ∧ s.1 ≤ r := fun s h => ⟨(bd s h).1, wid s (List.mem_append_right _ h)⟩
    have lr : r ≤ 100 := by
      obtain ⟨s, hs, e⟩ := wex
      rcases List.mem_append.mp hs with h | h
      · have := bu s h; omega
      · have := bd s h; omega
    have near : ∀ p : Nat, p < 2 * r + 1 → ∃ x, xs[p]? = some x ∧ Least us ds ((p : Int) - r) x := fun p hp => by
      obtain ⟨x, e, w, l⟩ := lst p hp
      exact ⟨x, e, wy_wg w, fun y hy => l y (wg_wy nu nd hy (by omega) hp)⟩
    have noU : NearOk us ds r (xs.drop r) := by
      refine ⟨by rw [List.length_drop]; omega, fun n x e => ?_⟩
      rw [List.getElem?_drop] at e
      obtain ⟨y, e2, l⟩ := near (r + n) (by have := (List.getElem?_eq_some_iff.mp e).1; omega)
      rw [e] at e2
      cases e2
      rw [show ((r + n : Nat) : Int) - r = n by omega] at l
      exact l
    have noD : NearOk ds us r ((xs.take (r + 1)).reverse) := by
      have ll : (xs.take (r + 1)).length = r + 1 := by rw [List.length_take]; omega
      refine ⟨by rw [List.length_reverse, ll]; omega, fun n x e => ?_⟩
      have nl' : n < r + 1 := by
        have := (List.getElem?_eq_some_iff.mp e).1
        rw [List.length_reverse, ll] at this
        exact this
      rw [List.getElem?_reverse (by omega), ll, List.getElem?_take, if_pos (by omega)] at e
      obtain ⟨y, e2, l⟩ := near (r + 1 - 1 - n) (by omega)
      rw [e] at e2
      cases e2
      have := least_swap l
      rw [show -(((r + 1 - 1 - n : Nat) : Int) - r) = n by omega] at this
      exact this
    have lxU : (xs.drop r).length = r + 1 := by rw [List.length_drop]; omega
    have lxD : ((xs.take (r + 1)).reverse).length = r + 1 := by rw [List.length_reverse, List.length_take]; omega
    wtm_at "ev_go"
    rw [List.length_map, lx]
    have er : ((2 * r + 1 : Nat) : Int) / 2 = r := by omega
    try refine rd_rI (wide_div (by decide) (show (2 : Int).natAbs < 2 ^ 10 by decide) (by decide) (by decide)) ?_
    rw [er]
    wtm_at "ev_go"
    -- the strictest step is worth what its days have at most
    obtain ⟨W1n, eW1⟩ : ∃ k : Nat, W1 = k := ⟨W1.toNat, by have : 1 ≤ W1 := bw1.1; omega⟩
    obtain ⟨W2n, eW2⟩ : ∃ k : Nat, W2 = k := ⟨W2.toNat, by have : 1 ≤ W2 := bw2.1; omega⟩
    subst eW1
    subst eW2
    have bw1' : 1 ≤ (W1n : Int) ∧ (W1n : Int) ≤ 100 := ⟨bw1.1, bw1.2.1⟩
    have bw2' : 1 ≤ (W2n : Int) ∧ (W2n : Int) ≤ 100 := ⟨bw2.1, bw2.2.1⟩
    have ht1 : ∀ s ∈ us, T1 * s.1 ≤ s.2 * W1n := fun s h => (tu s (niu.a s h)).1
    have ht2 : ∀ s ∈ ds, T2 * s.1 ≤ s.2 * W2n := fun s h => (td s (nid.a s h)).1
    have hd1 : ∀ s ∈ ds, 0 ≤ s.2 * W1n + T1 * s.1 := fun s h => rows s h _ niu.c
    have hd2 : ∀ s ∈ us, 0 ≤ s.2 * W2n + T2 * s.1 := fun s h => rowsS s h _ nid.c
    have tight1 : ∀ {ys : List Int}, NearOk us ds r ys → ys[((W1n : Int)).toNat]? = some T1 := fun {ys} no => by
      have : (W1n : Int) ≤ r := (nu _ niu.c).2
      have il : ((W1n : Int)).toNat < ys.length := by have := no.1; omega
      have l := no.2 _ _ (List.getElem?_eq_getElem il)
      rw [Int.toNat_of_nonneg (by omega)] at l
      have a1 := l.2 T1 (Wg.fwd niu.c)
      have a2 := excess (W := (W1n : Int)) (T := T1) (by omega) ht1 hd1 l.1
      have a3 := Int.le_of_mul_le_mul_right a2 (show (0 : Int) < W1n by omega)
      rw [List.getElem?_eq_getElem il, show ys[((W1n : Int)).toNat] = T1 by omega]
    have tight2 : ∀ {ys : List Int}, NearOk ds us r ys → ys[((W2n : Int)).toNat]? = some T2 := fun {ys} no => by
      have : (W2n : Int) ≤ r := (nd _ nid.c).2
      have il : ((W2n : Int)).toNat < ys.length := by have := no.1; omega
      have l := no.2 _ _ (List.getElem?_eq_getElem il)
      rw [Int.toNat_of_nonneg (by omega)] at l
      have a1 := l.2 T2 (Wg.fwd nid.c)
      have a2 := excess (W := (W2n : Int)) (T := T2) (by omega) ht2 hd2 l.1
      have a3 := Int.le_of_mul_le_mul_right a2 (show (0 : Int) < W2n by omega)
      rw [List.getElem?_eq_getElem il, show ys[((W2n : Int)).toNat] = T2 by omega]
    have bxU : ∀ x ∈ xs.drop r, x.natAbs ≤ 10 ^ 9 := fun x hx => by
      obtain ⟨n, hn⟩ := List.getElem?_of_mem hx
      have := (List.getElem?_eq_some_iff.mp hn).1
      exact near_bound (fun s h => (nd s h).1) (by omega) (by omega) bw1.2.2 ht1 hd1 iu (bu _ iu).2.2 (by omega) (noU.2 n x hn)
    have bxD : ∀ x ∈ (xs.take (r + 1)).reverse, x.natAbs ≤ 10 ^ 9 := fun x hx => by
      obtain ⟨n, hn⟩ := List.getElem?_of_mem hx
      have := (List.getElem?_eq_some_iff.mp hn).1
      exact near_bound (fun s h => (nu s h).1) (by omega) (by omega) bw2.2.2 ht2 hd2 id_ (bd _ id_).2.2 (by omega) (noD.2 n x hn)
    have mk_same : ∀ {H H' : Hp} {x dx : Addr} {o1 o2 : HO}, H x = none → H dx = none → Fr x (upd (upd H dx o1) x o2) H' → Same H H' := fun {H H' x dx o1 o2} hx hdx fr c o e => fr c o (lk_ne (ne_of_none e hx) (lk_ne (ne_of_none e hdx) e)) (ne_of_none e hx)
    have hRu5 := (s3.trans (s4.trans s5)) _ _ hRu
    have hMu5 := hMu.mono (s3.trans (s4.trans s5))
    have hRd5 := s5 _ _ hRd
    have hMd5 := hMd.mono s5
    refine rd_slL (SqL.of hxs) (fun q1 hq1 => ?_)
    have ec1 : cutV (xs.map V.int) (some (r : Int)) none = (xs.drop r).map V.int := by
      unfold cutV
      rw [HT.sIx_nat, HT.sIx_none, Nat.min_eq_left (by rw [List.length_map]; omega), List.take_of_length_le (by rw [List.length_drop]; exact Nat.le_refl _), List.map_drop]
    rw [ec1]
    have t1 := s15.trans (Same.new (o := .lst ((xs.drop r).map V.int)) hq1)
    have t1' := Same.new (o := .lst ((xs.drop r).map V.int)) hq1
    wtm_at "ev_go"
    intro x1 dx1 hx1 hdx1 nd1
    have n1 : Same (upd H5 q1 (.lst ((xs.drop r).map V.int))) (upd (upd (upd H5 q1 (.lst ((xs.drop r).map V.int))) dx1 (.own x1)) x1 (.ins cS dx1 [])) := (Same.new hdx1).trans (Same.new (by rw [upd_ne (Ne.symm nd1)]; exact hx1))
    refine ⟨x1, dx1, q1, u, xs.drop r, Ru, us, r, rfl, upd_same, n1 _ _ upd_same, n1 _ _ (t1' _ _ hRu5), hMu5.mono (t1'.trans n1), lxU, lr, lus, fun m h => ⟨(nu m h).1, (nu m h).2, (bu m h).2.2⟩, ⟨_, niu.c, tight1 noU⟩, fun H7 ow1 Wk Tk fr7 gw1 tk1 mk1 sf1 => ⟨rfl, ?_⟩⟩
    have s67 : Same (upd H5 q1 (.lst ((xs.drop r).map V.int))) H7 := mk_same hx1 hdx1 fr7
    have t7 := t1.trans s67
    wtm_at "ev_go"
    refine rd_sl3 ?_
    wtm_at "ev_go"
    refine ⟨nl, xs.map V.int, (r : Int), -1, rfl, rfl, rfl, SqL.of (s67 _ _ (t1' _ _ hxs)), by decide, fun q2 hq2 => ?_⟩
    rw [pick_back (by omega)]
    wtm_at "ev_go"
    intro x2 dx2 hx2 hdx2 nd2
    have t2' := Same.new (o := .lst (((xs.take (r + 1)).reverse).map V.int)) hq2
    have n2 : Same (upd H7 q2 (.lst (((xs.take (r + 1)).reverse).map V.int))) (upd (upd (upd H7 q2 (.lst (((xs.take (r + 1)).reverse).map V.int))) dx2 (.own x2)) x2 (.ins cS dx2 [])) := (Same.new hdx2).trans (Same.new (by rw [upd_ne (Ne.symm nd2)]; exact hx2))
    have t57 := t1'.trans s67
    refine ⟨x2, dx2, q2, d, (xs.take (r + 1)).reverse, Rd, ds, r, rfl, upd_same, n2 _ _ upd_same, n2 _ _ (t2' _ _ (t57 _ _ hRd5)), hMd5.mono (t57.trans (t2'.trans n2)), lxD, lr, lds, fun m h => ⟨(nd m h).1, (nd m h).2, (bd m h).2.2⟩, ⟨_, nid.c, tight2 noD⟩, fun H9 ow2 Wl Tl fr9 gw2 tk2 mk2 sf2 => ⟨rfl, ?_⟩⟩
    have s89 : Same (upd H7 q2 (.lst (((xs.take (r + 1)).reverse).map V.int))) H9 := mk_same hx2 hdx2 fr9
    have s79 := t2'.trans s89
    wtm_at "ev_go"
    intro x3 dx3 hx3 hdx3 nd3
    refine ⟨x3, dx3, x1, x2, rfl, upd_same, fun Hf eHf => ⟨rfl, ?_⟩⟩
    rw [upd_upd] at eHf
    have s9f : Same H9 Hf := by
      rw [eHf]
      exact (Same.new hdx3).trans (Same.new (by rw [upd_ne (Ne.symm nd3)]; exact hx3))
    have hf3 : Hf x3 = some (.ins cM dx3 (putF "_tight" .non (putF "_down" (.ref x2) (putF "_up" (.ref x1) [])))) := by rw [eHf, upd_same]
    obtain ⟨so1, so2, so3⟩ := side_ok nu nd lr lus (fun s h => (bu s h).2.2) rows (by omega) niu.c ht1 noU lxU rfl mk1 (fun s h => (tk1 s h).1)
    obtain ⟨po1, po2, po3⟩ := side_ok nd nu lr lds (fun s h => (bd s h).2.2) rowsS (by omega) nid.c ht2 noD lxD rfl mk2 (fun s h => (tk2 s h).1)
    have rok : ReachOk (upS ((1, lo, hi) :: rs)) (dnS ((1, lo, hi) :: rs)) r := ⟨by have := (nu _ iu).2; have e : ((1 : Int), su.2).1 = 1 := rfl; omega, lr, us, ds, fun s h => ⟨niu.a s h, nu s h⟩, fun s h => ⟨nid.a s h, nd s h⟩, fun n x h => wg_kept kept.hu kept.hd h⟩
    have sa1 : SideAt cS H7 x1 ow1 (fun r n x => ReachOk (upS ((1, lo, hi) :: rs)) (dnS ((1, lo, hi) :: rs)) r ∧ Least (upS ((1, lo, hi) :: rs)) (dnS ((1, lo, hi) :: rs)) n x) := ⟨xs.drop r, _, ds, r, Wk, Tk, none, sf1, so1, so2, (fun _ => ⟨lxU, bxU⟩), (fun _ _ z => by cases z), fun n x h => ⟨rok, kept.least (so3 n x h)⟩⟩
    have sa2 : SideAt cS H9 x2 ow2 (fun r n x => ReachOk (upS ((1, lo, hi) :: rs)) (dnS ((1, lo, hi) :: rs)) r ∧ Least (dnS ((1, lo, hi) :: rs)) (upS ((1, lo, hi) :: rs)) n x) := ⟨(xs.take (r + 1)).reverse, _, us, r, Wl, Tl, none, sf2, po1, po2, (fun _ => ⟨lxD, bxD⟩), (fun _ _ z => by cases z), fun n x h => ⟨rok, kept.swap.least (po3 n x h)⟩⟩
    have o1 : ∀ c, ow1 c → H c = none := fun c h => by
      rcases gw1 c h with rfl | rfl | h
      · exact t1.free hx1
      · exact s15.free hq1
      · exact (t1.trans n1).free h
    have o2 : ∀ c, ow2 c → H7 c = none := fun c h => by
      rcases gw2 c h with rfl | rfl | h
      · exact t2'.free hx2
      · exact hq2
      · exact (t2'.trans n2).free h
    refine q x3 Hf (fun c => c = x3 ∨ ow1 c ∨ ow2 c) (t7.trans (s79.trans s9f)) (fun c h => ?_) ⟨dx3, x1, x2, _, .non, ow1, ow2, hf3, fun c => Iff.rfl, fun c h1 h2 => sa1.alive c h1 (o2 c h2), fun h => (s79.trans (Same.refl _)) |> fun z => sa1.alive x3 h (z.free hx3), fun h => sa2.alive x3 h hx3, ?_, ?_, lk_put0, fun k hk => ?_, sa1.keep (fun c o e _ => (s79.trans s9f) _ _ e), sa2.keep (fun c o e _ => s9f _ _ e)⟩
    · rcases h with rfl | h | h
      · exact (t7.trans s79).free hx3
      · exact o1 c h
      · exact t7.free (o2 c h)
    · rw [lk_put (by decide +kernel), lk_put (by decide +kernel)]
      exact lk_put0
    · rw [lk_put (by decide +kernel)]
      exact lk_put0
    · unfold sumsField at hk
      simp only [Bool.or_eq_false_iff, beq_eq_false_iff_ne] at hk
      obtain ⟨⟨h1, h2⟩, h3⟩ := hk
      rw [lk_put h3, lk_put h2, lk_put h1]
      rfl
end
end

section
/-! ### books with their sums -/
def ownB (b l : Addr) : Option (Addr × (Addr → Prop)) → Addr → Prop
  | none => fun c => c = b ∨ c = l
  | some (_, om) => fun c => c = b ∨ c = l ∨ om c
/-- a book at b: its list l, its sums as far as they are there -/
def BookO (cB cM cS : Addr) (H : Hp) (b l : Addr) (lo hi : Int) (L : List V) (rs : List R3) (sm : Option (Addr × (Addr → Prop))) : Prop := ∃ (dx : Addr) (fs : List (Str × V)) (v : V), H b = some (.ins cB dx fs) ∧ H l = some (.lst L) ∧ fs.lookup ("_low" : Str) = some (.int lo) ∧ fs.lookup ("_high" : Str) = some (.int hi) ∧ fs.lookup ("_rules" : Str) = some (.ref l) ∧
  fs.lookup ("_conflict" : Str) = some v ∧ ConfV ((1, lo, hi) :: rs) v H ∧ RlR H L rs ∧ (∀ m : Str, bookField m = false → fs.lookup m = none) ∧ fs.length < 900 ∧ (sm = none → fs.lookup ("_sums" : Str) = some .non) ∧
  ∀ m om, sm = some (m, om) → fs.lookup ("_sums" : Str) = some (.ref m) ∧ SumsAt cM cS H m om (upS ((1, lo, hi) :: rs)) (dnS ((1, lo, hi) :: rs)) ∧ ¬ om b ∧ ¬ om l
/-- a book at b, which owns ow -/
def BookS (cB cM cS : Addr) (H : Hp) (b : Addr) (ow : Addr → Prop) (lo hi : Int) (L : List V) (rs : List R3) : Prop := ∃ (l : Addr) (sm : Option (Addr × (Addr → Prop))), BookO cB cM cS H b l lo hi L rs sm ∧ ∀ c, ow c ↔ ownB b l sm c
theorem ConfV.keep {B : List R3} {v : V} {H H' : Hp} (h : ConfV B v H) (k : ∀ c xs, H c = some (.tup xs) → H' c = some (.tup xs)) : ConfV B v H' := by
  rcases h with h | ⟨p, i, j, e, e2, n⟩
  · exact .inl h
  · exact .inr ⟨p, i, j, e, k _ _ e2, n⟩
theorem RlR.keep {L : List V} {rs : List R3} {H H' : Hp} (h : RlR H L rs) (k : ∀ c xs, H c = some (.tup xs) → H' c = some (.tup xs)) : RlR H' L rs := ⟨h.1, fun i v e => by
  obtain ⟨a, r, h1, h2, h3, h4⟩ := h.2 i v e
  exact ⟨a, r, h1, h2, k _ _ h3, h4⟩⟩
section
variable {cB cM cS b l : Addr} {H H' : Hp} {ow : Addr → Prop} {lo hi : Int} {L : List V} {rs : List R3} {sm : Option (Addr × (Addr → Prop))}
theorem BookO.at_ (h : BookO cB cM cS H b l lo hi L rs sm) : BookAt cB H b lo hi L rs := by
  obtain ⟨dx, fs, v, h1, h2, q1, q2, q3, q4, q5, q6, q7, _⟩ := h
  exact ⟨dx, l, fs, v, h1, h2, q1, q2, q3, q4, q5, q6, q7⟩
theorem BookS.at_ (h : BookS cB cM cS H b ow lo hi L rs) : BookAt cB H b lo hi L rs := by
  obtain ⟨l, sm, h, _⟩ := h
  exact h.at_
theorem BookO.alive (h : BookO cB cM cS H b l lo hi L rs sm) : ∀ c, ownB b l sm c → H c ≠ none := by
  obtain ⟨dx, fs, v, h1, h2, q1, q2, q3, q4, q5, q6, q7, q8, q9, q10⟩ := h
  intro c hc
  cases sm with
  | none =>
    rcases hc with rfl | rfl
    · rw [h1]; intro z; cases z
    · rw [h2]; intro z; cases z
  | some p =>
    obtain ⟨m, om⟩ := p
    rcases hc with rfl | rfl | hc
    · rw [h1]; intro z; cases z
    · rw [h2]; intro z; cases z
    · exact (q10 m om rfl).2.1.alive c hc
theorem BookS.alive (h : BookS cB cM cS H b ow lo hi L rs) : ∀ c, ow c → H c ≠ none := by
  obtain ⟨l, sm, h, e⟩ := h
  exact fun c hc => h.alive c ((e c).mp hc)
theorem BookS.keep (h : BookS cB cM cS H b ow lo hi L rs) (k : ∀ c o, H c = some o → (ow c ∨ ∃ xs, o = .tup xs) → H' c = some o) : BookS cB cM cS H' b ow lo hi L rs := by
  obtain ⟨l, sm, ⟨dx, fs, v, h1, h2, q1, q2, q3, q4, q5, q6, q7, q8, q9, q10⟩, e⟩ := h
  have ob : ow b := (e b).mpr (by cases sm with
    | none => exact .inl rfl
    | some p => exact .inl rfl)
  have ol : ow l := (e l).mpr (by cases sm with
    | none => exact .inr rfl
    | some p => exact .inr (.inl rfl))
  have kt : ∀ c xs, H c = some (.tup xs) → H' c = some (.tup xs) := fun c xs z => k c _ z (.inr ⟨_, rfl⟩)
  refine ⟨l, sm, ⟨dx, fs, v, k _ _ h1 (.inl ob), k _ _ h2 (.inl ol), q1, q2, q3, q4, q5.keep kt, q6.keep kt, q7, q8, q9, fun m om z => ?_⟩, e⟩
  obtain ⟨a1, a2, a3⟩ := q10 m om z
  subst z
  exact ⟨a1, a2.keep fun c o e2 w => k c o e2 (w.imp (fun h => (e c).mpr (.inr (.inr h))) id), a3⟩
theorem BookS.same (h : BookS cB cM cS H b ow lo hi L rs) (s : Same H H') : BookS cB cM cS H' b ow lo hi L rs := h.keep fun c o e _ => s _ _ e
theorem BookS.frame {o2 : Addr → Prop} (h : BookS cB cM cS H b ow lo hi L rs) (f : FrO o2 H H') (dj : ∀ c, ow c → ¬ o2 c) : BookS cB cM cS H' b ow lo hi L rs := h.keep fun c o e w => f.1 c o e (w.imp (dj c) id)
theorem BookS.put {p : Addr} {xs : List V} {o : HO} (h : BookS cB cM cS H b ow lo hi L rs) (hp : H p = some (.lst xs)) (np : ¬ ow p) : BookS cB cM cS (upd H p o) b ow lo hi L rs := h.keep fun c q e w => lk_ne (fun z => by
  subst z
  rcases w with w | ⟨ys, rfl⟩
  · exact np w
  · rw [hp] at e
    cases e) e
theorem BookN.toS (h : BookN cB H b l lo hi L rs) : BookS cB cM cS H b (fun c => c = b ∨ c = l) lo hi L rs := by
  obtain ⟨dx, fs, v, h1, h2, q1, q2, q3, q4, q5, q6, q7, q8, q9⟩ := h
  exact ⟨l, none, ⟨dx, fs, v, h1, h2, q1, q2, q3, q4, q5, q6, q7, q9, fun _ => q8, fun m om z => by cases z⟩, fun c => Iff.rfl⟩
/-- the sums were asked: the book has them as they are then -/
theorem BookO.asked {m : Addr} {om om' : Addr → Prop} (h : BookO cB cM cS H b l lo hi L rs (some (m, om))) (f : FrO om H H') (g : ∀ c, om' c → om c ∨ H c = none) (s : SumsAt cM cS H' m om' (upS ((1, lo, hi) :: rs)) (dnS ((1, lo, hi) :: rs))) :
    BookO cB cM cS H' b l lo hi L rs (some (m, om')) := by
  obtain ⟨dx, fs, v, h1, h2, q1, q2, q3, q4, q5, q6, q7, q8, q9, q10⟩ := h
  obtain ⟨a1, a2, a3, a4⟩ := q10 m om rfl
  have kt : ∀ c xs, H c = some (.tup xs) → H' c = some (.tup xs) := fun c xs z => f.1 c _ z (.inr ⟨_, rfl⟩)
  refine ⟨dx, fs, v, f.1 _ _ h1 (.inl a3), f.1 _ _ h2 (.inl a4), q1, q2, q3, q4, q5.keep kt, q6.keep kt, q7, q8, (fun z => by cases z), fun m' om2 z => ?_⟩
  cases z
  refine ⟨a1, s, fun z => ?_, fun z => ?_⟩
  · rcases g b z with z | z
    · exact a3 z
    · rw [h1] at z; cases z
  · rcases g l z with z | z
    · exact a4 z
    · rw [h2] at z; cases z
end
/-- what the sums are reckoned with -/
structure NumB (lo hi : Int) (L : List V) (rs : List R3) : Prop where
  n : rs.length ≤ 30
  b : ∀ r ∈ (1, lo, hi) :: rs, 1 ≤ r.1 ∧ r.1 ≤ 100 ∧ r.2.1.natAbs ≤ 10 ^ 6 ∧ r.2.2.natAbs ≤ 10 ^ 6

def spBS (cB cM cS : Addr) : Sp := fun vs H Q _ => ∃ (b l : Addr) (lo hi : Int) (L : List V) (rs : List R3) (sm : Option (Addr × (Addr → Prop))), vs = [.ref b] ∧ BookO cB cM cS H b l lo hi L rs sm ∧ NoConf ((1, lo, hi) :: rs) ∧ NumB lo hi L rs ∧ L.length ≤ 1000 ∧ Num lo ∧ Num hi ∧
  ∀ (m : Addr) (om : Addr → Prop) (H' : Hp), FrO (ownB b l sm) H H' → (∀ c, ownB b l (some (m, om)) c → ownB b l sm c ∨ H c = none) → BookO cB cM cS H' b l lo hi L rs (some (m, om)) → Q (.ref m) H'
section
variable {P : Program} {w : World} {K : PySem.W.Frag} {mg : Str → Option Value} {base : Heap} {fI cD cR cB fB fN cM cS : Addr} {fdB : FuncData}
theorem ok_bsums {f : Addr} {fd : FuncData} (F : Fun K "sums" "Book.sums" s_Book_sums f fd) (T : TxB K mg fI cD cR cB fB fN) (GSO : CalN P w K mg base 4 "sums_of" (spSumsOf K cM cS)) (GB : FnOk P w K mg base CX0 1 fB fdB ["self"] (spBnd cB)) (bB : Binds K fdB ["self"] []) : FnOk P w K mg base CX0 5 f fd ["self"] (spBS cB cM cS) := by
  refine F.ok sc_Book_sums (fun vs H Q E h => ?_) (fun cdv A outer s H vs Q E hr h => ?_)
  · obtain ⟨b, l, lo, hi, L, rs, sm, rfl, _⟩ := h
    rfl
  · obtain ⟨b, l, lo, hi, L, rs, sm, rfl, bo, nc, nb, lL, nlo, nhi, q⟩ := h
    have bo0 := bo
    obtain ⟨dx, fs, v, hb, hl, l1, l2, l3, l4, cv, hR, lm, lf, sn, ss⟩ := bo
    refine ⟨_, (C8.pss_cut (ps_if (pt_cmpR op_isN (pe_fld (pv 0) rfl) pe_non (nomark _)) 
        (pss_one (ps_fld (pv 0) (pe_cN GSO hr (by decide) (by rfl) (pa_cons (pe_meth0 (pv 0) T.cls T.mB GB (hr.mono (by decide)) bB .nil pass0) pa_nil)) rfl)) pss_nil)
      (pss_one (ps_ret (pe_fld (pv 0) rfl)))), ?_⟩
    wtm_at "ev_go"
    refine rd_cut (fun σ' H' => σ' = [some (.ref b)] ∧ ∃ (m : Addr) (om : Addr → Prop), FrO (ownB b l sm) H H' ∧ (∀ c, ownB b l (some (m, om)) c → ownB b l sm c ∨ H c = none) ∧ BookO cB cM cS H' b l lo hi L rs (some (m, om))) ?_ ?_
    · wtm_at "ev_go"
      cases sm with
      | none =>
        refine rd_fldA hb T.cls T.n5 (sn rfl) ?_
        wtm_at "ev_go"
        refine ⟨trivial, true, rfl, ?_⟩
        rw [if_pos rfl]
        wtm_at "ev_go"
        refine ⟨b, dx, fs, rfl, hb, lm _ (by decide +kernel), ?_⟩
        wtm_at "ev_go"
        refine ⟨b, dx, l, fs, lo, hi, L, rs, rfl, hb, l1, l2, l3, hl, hR, lL, nlo, nhi, fun p L' H1 s1 hp r1 => ?_⟩
        wtm_at "ev_go"
        refine ⟨p, L', lo, hi, rs, rfl, hp, r1, nc, nb.n, nb.b, fun m H2 om s2 hom sa => ?_⟩
        have s12 := s1.trans s2
        have hb2 := s12 _ _ hb
        have nbl : l ≠ b := ne_of hl hb (fun z => by cases z)
        wtm_at "ev_go"
        refine rd_sfldA hb2 T.cls T.n5 (Nat.lt_of_lt_of_le lf (by decide)) ?_
        wtm_at "ev_go"
        have omf : ∀ c, om c → H c = none := fun c h => s1.free (hom c h)
        have nob : ¬ om b := fun h => by have := omf b h; rw [hb] at this; cases this
        have nol : ¬ om l := fun h => by have := omf l h; rw [hl] at this; cases this
        have kt : ∀ c xs, H c = some (.tup xs) → upd H2 b (.ins cB dx (putF "_sums" (.ref m) fs)) c = some (.tup xs) := fun c xs z => lk_ne (ne_of z hb (fun w => by cases w)) (s12 _ _ z)
        refine ⟨trivial, m, om, (FrO.of (ow := ownB b l none) s12).put (.inl (.inl rfl)) (fun xs z => by rw [hb2] at z; cases z), fun c h => ?_, dx, _, v, upd_same, lk_ne nbl (s12 _ _ hl), ?_, ?_, ?_, ?_, cv.keep kt, hR.keep kt, fun k hk => ?_, by rw [len_putS (sn rfl)]; exact lf, (fun z => by cases z), fun m' om2 z => ?_⟩
        · rcases h with h | h | h
          · exact .inl (.inl h)
          · exact .inl (.inr h)
          · exact .inr (omf c h)
        · rw [lk_put (by decide +kernel)]
          exact l1
        · rw [lk_put (by decide +kernel)]
          exact l2
        · rw [lk_put (by decide +kernel)]
          exact l3
        · rw [lk_put (by decide +kernel)]
          exact l4
        · have hk2 := hk
          unfold bookField at hk2
          simp only [Bool.or_eq_false_iff, beq_eq_false_iff_ne] at hk2
          rw [lk_put hk2.1.2]
          exact lm k hk
        · cases z
          exact ⟨lk_put0, sa.keep fun c o e w => lk_ne (fun z => by
            subst z
            rcases w with w | ⟨ys, rfl⟩
            · exact nob w
            · rw [hb2] at e; cases e) e, nob, nol⟩
      | some pp =>
        obtain ⟨m, om⟩ := pp
        obtain ⟨a1, a2, a3, a4⟩ := ss m om rfl
        refine rd_fldA hb T.cls T.n5 a1 ?_
        wtm_at "ev_go"
        refine ⟨trivial, false, by first | rfl | rw [decide_eq_false (fun z => by cases z)], ?_⟩
        rw [if_neg (by decide)]
        wtm_at "ev_go"
        exact ⟨trivial, m, om, FrO.of (Same.refl _), fun c h => .inl h, bo0⟩
    · rintro σ' H' ⟨rfl, m, om, f1, g1, bo1⟩
      have bo2 := bo1
      obtain ⟨dx, fs, v, hb, hl, l1, l2, l3, l4, cv, hR, lm, lf, sn, ss⟩ := bo1
      wtm_at "ev_go"
      refine rd_fldA hb T.cls T.n5 (ss m om rfl).1 ?_
      exact q m om H' f1 g1 bo2
end
end

section
def spCfl (C : Addr) : Sp := fun vs H Q _ => ∃ (a : Addr) (lo hi : Int) (R : List V) (rs : List R3), vs = [.ref a] ∧ BookAt C H a lo hi R rs ∧ ∀ v : V, ConfV ((1, lo, hi) :: rs) v H → Q v H
section
variable {P : Program} {w : World} {K : PySem.W.Frag} {mg : Str → Option Value} {base : Heap} {fI cD cR cB fB fN cW cL : Addr}
theorem ok_cfl {f : Addr} {fd : FuncData} (F : Fun K "conflict" "Book.conflict" s_Book_conflict f fd) (T : TxB K mg fI cD cR cB fB fN) : FnOk P w K mg base CX0 1 f fd ["self"] (spCfl cB) := by
  refine F.ok sc_Book_conflict (fun vs H Q E h => ?_) (fun cdv A outer s H vs Q E hr h => ?_)
  · obtain ⟨a, lo, hi, R, rs, rfl, _⟩ := h
    rfl
  · obtain ⟨a, lo, hi, R, rs, rfl, ⟨dx, l, fs, v, ha, hl, l1, l2, l3, l4, cv, hR, l5⟩, q⟩ := h
    refine ⟨_, (pss_one (ps_ret (pe_fld (pv 0) rfl))), ?_⟩
    wtm_at "ev_go"
    exact rd_fldA ha T.cls T.n4 l4 (q v cv)
end

/-- a raised error that keeps this value -/
def Raised (H' : Hp) (d : Addr) (v : V) : Prop := H' d = some (.xd [(("value" : Str), v)])
def spLenOf (cL : Addr) : Sp := fun vs H Q E => ∃ n : Int, vs = [.int n] ∧ (0 ≤ n → Q .non H) ∧ (n < 0 → ∀ (d : Addr) (H' : Hp), Same H H' → Raised H' d (.int n) → E (.ref cL) (some d) H')
def spRows (C cW : Addr) : Sp := fun vs H Q E => ∃ (a : Addr) (lo hi : Int) (R : List V) (rs : List R3), vs = [.ref a] ∧ BookAt C H a lo hi R rs ∧ (NoConf ((1, lo, hi) :: rs) → Q .non H) ∧
  ∀ (p : Addr) (i j : Nat), H p = some (.tup [.int i, .int j]) → FirstConf ((1, lo, hi) :: rs) i j → ∀ (d : Addr) (H' : Hp), Same H H' → Raised H' d (.ref p) → E (.ref cW) (some d) H'
section
variable {P : Program} {w : World} {K : PySem.W.Frag} {mg : Str → Option Value} {base : Heap} {fI cD cR cB fB fN cW cL : Addr}
theorem ok_rows {f fC : Addr} {fd fdI fdC : FuncData} (F : Fun K "check_rows" "check_rows" s_check_rows f fd) (T : TxB K mg fI cD cR cB fB fN) (xW : ExT K mg "NoRows" cW fI) (GI : FnOk P w K mg base CX0 1 fI fdI ["self", "value"] (spInit K)) (bI : Binds K fdI ["self", "value"] [])
    (mC : Meth K cB "conflict" fC) (GCf : FnOk P w K mg base CX0 1 fC fdC ["self"] (spCfl cB)) (bCf : Binds K fdC ["self"] []) : FnOk P w K mg base (L2.CX P w) 3 f fd ["book"] (spRows cB cW) := by
  refine F.okX sc_check_rows (fun vs H Q E h => ?_) (fun cdv A outer s H vs Q E hr h => ?_)
  · obtain ⟨a, lo, hi, R, rs, rfl, _⟩ := h
    rfl
  · obtain ⟨a, lo, hi, R, rs, rfl, bk, q1, q2⟩ := h
    obtain ⟨dx, l, fs, v, ha, hl, l1, l2, l3, l4, cv, hR, l5⟩ := id bk
    refine ⟨_, (pss_cons (ps_set (i := 1) sc_check_rows.nd rfl (Or.inl rfl) (pe_meth0 (pv 0) T.cls mC GCf (hr.mono (by decide)) bCf .nil pass0))
      (pss_one (ps_if (pt_cmpR op_notN (pv 1) pe_non (nomark _)) 
        (pss_one (ps_raise rfl (takes_of rfl rfl rfl rfl) (pmk_oex xW.c xW.i xW.t GI (hr.mono (by decide)) bI .nil pass0 (by rfl) xW.g (pa_cons (pv 1) pa_nil)))) pss_nil))), ?_⟩
    wtm_at "ev_go"
    refine ⟨a, dx, fs, rfl, ha, l5 _ (by decide +kernel), ?_⟩
    wtm_at "ev_go"
    refine ⟨a, lo, hi, R, rs, rfl, bk, fun v hv => ?_⟩
    wtm_at "ev_go"
    rcases hv with ⟨rfl, n⟩ | ⟨p, i, j, rfl, e, n⟩
    · refine ⟨trivial, ?_⟩
      wtm_at "ev_go"
      rw [if_neg (by simp)]
      wtm_at "ev_go"
      exact q1 n
    · refine ⟨trivial, ?_⟩
      wtm_at "ev_go"
      rw [if_pos (by simp)]
      wtm_at "ev_go"
      exact rd_mko xW (fun d H' s e' => q2 p i j e n d H' s e')
theorem ok_length {f : Addr} {fd fdI : FuncData} (F : Fun K "check_length" "check_length" s_check_length f fd) (xL : ExT K mg "InvalidLength" cL fI) (GI : FnOk P w K mg base CX0 1 fI fdI ["self", "value"] (spInit K)) (bI : Binds K fdI ["self", "value"] []) : FnOk P w K mg base (L2.CX P w) 3 f fd ["length"] (spLenOf cL) := by
  refine F.okX sc_check_length (fun vs H Q E h => ?_) (fun cdv A outer s H vs Q E hr h => ?_)
  · obtain ⟨n, rfl, _⟩ := h
    rfl
  · obtain ⟨n, rfl, q1, q2⟩ := h
    refine ⟨_, (pss_one (ps_if (pt_cmpR op_lt (pv 0) pe_int (nomark _)) 
        (pss_one (ps_raise rfl (takes_of rfl rfl rfl rfl) (pmk_oex xL.c xL.i xL.t GI (hr.mono (by decide)) bI .nil pass0 (by rfl) xL.g (pa_cons (pv 0) pa_nil)))) pss_nil)), ?_⟩
    wtm_at "ev_go"
    refine rd_ite (fun c => ?_) (fun c => ?_)
    · wtm_at "ev_go"
      exact rd_mko xL (fun d H' s e => q2 c d H' s e)
    · wtm_at "ev_go"
      exact q1 (by omega)
end

/-- the methods by which the spans ask -/
structure TxV (K : PySem.W.Frag) (cB cM fSu fGr fLe : Addr) : Prop where
  cls : Cls K cM
  mSu : Meth K cB "sums" fSu
  mGr : Meth K cM "greatest" fGr
  mLe : Meth K cM "least" fLe
/-- a book whose sums may be asked, with these numbers -/
structure AskB (cB cM cS : Addr) (H : Hp) (b : Addr) (ow : Addr → Prop) (lo hi : Int) (L : List V) (rs : List R3) : Prop where
  s : BookS cB cM cS H b ow lo hi L rs
  n : NumB lo hi L rs
  l : L.length ≤ 1000
  lo : Num lo
  hi : Num hi
def spGS (cB cM cS cW cL : Addr) (up : Bool) : Sp := fun vs H Q E => ∃ (b : Addr) (n : Int) (ow : Addr → Prop) (lo hi : Int) (L : List V) (rs : List R3), vs = [.ref b, .int n] ∧ AskB cB cM cS H b ow lo hi L rs ∧ Num n ∧
  (NoConf ((1, lo, hi) :: rs) → 0 ≤ n → ∀ (x : Int) (H' : Hp) (ow' : Addr → Prop), (up = true → Least (upS ((1, lo, hi) :: rs)) (dnS ((1, lo, hi) :: rs)) n x) → (up = false → Least (dnS ((1, lo, hi) :: rs)) (upS ((1, lo, hi) :: rs)) n x) → FrO ow H H' → (∀ c, ow' c → ow c ∨ H c = none) → AskB cB cM cS H' b ow' lo hi L rs → Q (.int (if up then x else -x)) H') ∧
  (NoConf ((1, lo, hi) :: rs) → n < 0 → ∀ (d : Addr) (H' : Hp), Same H H' → Raised H' d (.int n) → E (.ref cL) (some d) H') ∧
  ∀ (p : Addr) (i j : Nat), H p = some (.tup [.int i, .int j]) → FirstConf ((1, lo, hi) :: rs) i j → ∀ (d : Addr) (H' : Hp), Same H H' → Raised H' d (.ref p) → E (.ref cW) (some d) H'
section
variable {P : Program} {w : World} {K : PySem.W.Frag} {mg : Str → Option Value} {base : Heap} {fI cD cR cB fB fN cW cL cM cS fSu fGr fLe : Addr}
theorem ok_greatest_sum {f fR fL2 : Addr} {fd fdR fdL fdS fdG : FuncData} (F : Fun K "greatest_sum" "greatest_sum" s_greatest_sum f fd) (T : TxB K mg fI cD cR cB fB fN) (U : TxV K cB cM fSu fGr fLe) (GRo : CalX P w K mg base 3 "check_rows" fR fdR ["book"] (spRows cB cW)) (GLe : CalX P w K mg base 3 "check_length" fL2 fdL ["length"] (spLenOf cL))
    (GBS : FnOk P w K mg base CX0 5 fSu fdS ["self"] (spBS cB cM cS)) (bBS : Binds K fdS ["self"] []) (GSG : FnOk P w K mg base CX0 4 fGr fdG ["self", "length"] (spSG cM cS)) (bSG : Binds K fdG ["self", "length"] []) (mlk : sumsField "greatest" = false) : FnOk P w K mg base (L2.CX P w) 6 f fd ["book", "length"] (spGS cB cM cS cW cL true) := by
  refine F.okX sc_greatest_sum (fun vs H Q E h => ?_) (fun cdv A outer s H vs Q E hr h => ?_)
  · obtain ⟨b, n, ow, lo, hi, L, rs, rfl, _⟩ := h
    rfl
  · obtain ⟨b, n, ow, lo, hi, L, rs, rfl, ask, nn, q1, q2, q3⟩ := h
    refine ⟨_, (pss_cons (ps_expr (pe_cX GRo hr (by decide) (passes_call (takes_of rfl rfl rfl rfl) (fun _ _ _ _ h => h)) (by rfl) (pa_cons (pv 0) pa_nil)))
      (pss_cons (ps_expr (pe_cX GLe hr (by decide) (passes_call (takes_of rfl rfl rfl rfl) (fun _ _ _ _ h => h)) (by rfl) (pa_cons (pv 1) pa_nil)))
      (pss_one (ps_ret (pe_meth (pe_meth0 (pv 0) T.cls U.mSu GBS (hr.mono (by decide)) bBS .nil pass0) U.cls U.mGr GSG (hr.mono (by decide)) bSG .nil pass0 (pa_cons (pv 1) pa_nil)))))), ?_⟩
    wtm_at "ev_go"
    refine ⟨b, lo, hi, L, rs, rfl, ask.s.at_, fun nc => ?_, q3⟩
    wtm_at "ev_go"
    refine ⟨n, rfl, fun h1 => ?_, fun h1 => q2 nc h1⟩
    obtain ⟨l, sm, bo, how⟩ := ask.s
    have bo0 := bo
    obtain ⟨dx, fs, v, hb, hl, l1, l2, l3, l4, cv, hR, lm, lf, sn, ss⟩ := bo
    wtm_at "ev_go"
    refine ⟨b, dx, fs, rfl, hb, lm _ (by decide +kernel), ?_⟩
    wtm_at "ev_go"
    refine ⟨b, l, lo, hi, L, rs, sm, rfl, bo0, nc, ask.n, ask.l, ask.lo, ask.hi, fun m om H1 f1 g1 bo1 => ?_⟩
    have bo2 := bo1
    obtain ⟨dx2, fs2, v2, hb2, hl2, k1, k2, k3, k4, cv2, hR2, lm2, lf2, sn2, ss2⟩ := bo1
    obtain ⟨a1, a2, a3, a4⟩ := ss2 m om rfl
    have sa := a2
    obtain ⟨dx3, u3, d3, fs3, vt, ou, od, hm, howm, dj, nu, nd, m1, m2, m3, m4, su, sd⟩ := a2
    refine ⟨m, dx3, fs3, rfl, hm, m4 _ mlk, ?_⟩
    wtm_at "ev_go"
    refine ⟨m, n, om, _, _, rfl, h1, nn, sa, fun x H2 om' hx f2 g2 s2 => ?_⟩
    have bo3 := bo2.asked f2 g2 s2
    refine q1 nc h1 x H2 (ownB b l (some (m, om'))) (fun z => ?_) (fun z => ?_) ⟨fun c o e w => f2.1 c o (f1.1 c o e (w.imp (fun h z => h ((how c).mpr z)) id)) (w.imp (fun h z => ?_) id), fun c h => f2.2 c (f1.2 c h)⟩ (fun c h => ?_) ⟨⟨l, some (m, om'), bo3, fun c => Iff.rfl⟩, ask.n, ask.l, ask.lo, ask.hi⟩
    · first | exact hx | cases z
    · first | exact hx | cases z
    · rcases g1 c (.inr (.inr z)) with y | y
      · exact h ((how c).mpr y)
      · rw [y] at e
        cases e
    · have up1 : ∀ c, ownB b l (some (m, om)) c → ow c ∨ H c = none := fun c h => (g1 c h).imp (fun h => (how c).mpr h) id
      rcases h with h | h | h
      · exact up1 c (.inl h)
      · exact up1 c (.inr (.inl h))
      · rcases g2 c h with h | h
        · exact up1 c (.inr (.inr h))
        · right
          cases z : H c with
          | none => rfl
          | some o => exact absurd h (f1.2 c (by rw [z]; intro y; cases y))
theorem ok_least_sum {f fR fL2 : Addr} {fd fdR fdL fdS fdG : FuncData} (F : Fun K "least_sum" "least_sum" s_least_sum f fd) (T : TxB K mg fI cD cR cB fB fN) (U : TxV K cB cM fSu fGr fLe) (GRo : CalX P w K mg base 3 "check_rows" fR fdR ["book"] (spRows cB cW)) (GLe : CalX P w K mg base 3 "check_length" fL2 fdL ["length"] (spLenOf cL))
    (GBS : FnOk P w K mg base CX0 5 fSu fdS ["self"] (spBS cB cM cS)) (bBS : Binds K fdS ["self"] []) (GSL : FnOk P w K mg base CX0 4 fLe fdG ["self", "length"] (spSL cM cS)) (bSL : Binds K fdG ["self", "length"] []) (mlk : sumsField "least" = false) : FnOk P w K mg base (L2.CX P w) 6 f fd ["book", "length"] (spGS cB cM cS cW cL false) := by
  refine F.okX sc_least_sum (fun vs H Q E h => ?_) (fun cdv A outer s H vs Q E hr h => ?_)
  · obtain ⟨b, n, ow, lo, hi, L, rs, rfl, _⟩ := h
    rfl
  · obtain ⟨b, n, ow, lo, hi, L, rs, rfl, ask, nn, q1, q2, q3⟩ := h
    refine ⟨_, (pss_cons (ps_expr (pe_cX GRo hr (by decide) (passes_call (takes_of rfl rfl rfl rfl) (fun _ _ _ _ h => h)) (by rfl) (pa_cons (pv 0) pa_nil)))
      (pss_cons (ps_expr (pe_cX GLe hr (by decide) (passes_call (takes_of rfl rfl rfl rfl) (fun _ _ _ _ h => h)) (by rfl) (pa_cons (pv 1) pa_nil)))
      (pss_one (ps_ret (pe_meth (pe_meth0 (pv 0) T.cls U.mSu GBS (hr.mono (by decide)) bBS .nil pass0) U.cls U.mLe GSL (hr.mono (by decide)) bSL .nil pass0 (pa_cons (pv 1) pa_nil)))))), ?_⟩
    wtm_at "ev_go"
    refine ⟨b, lo, hi, L, rs, rfl, ask.s.at_, fun nc => ?_, q3⟩
    wtm_at "ev_go"
    refine ⟨n, rfl, fun h1 => ?_, fun h1 => q2 nc h1⟩
    obtain ⟨l, sm, bo, how⟩ := ask.s
    have bo0 := bo
    obtain ⟨dx, fs, v, hb, hl, l1, l2, l3, l4, cv, hR, lm, lf, sn, ss⟩ := bo
    wtm_at "ev_go"
    refine ⟨b, dx, fs, rfl, hb, lm _ (by decide +kernel), ?_⟩
    wtm_at "ev_go"
    refine ⟨b, l, lo, hi, L, rs, sm, rfl, bo0, nc, ask.n, ask.l, ask.lo, ask.hi, fun m om H1 f1 g1 bo1 => ?_⟩
    have bo2 := bo1
    obtain ⟨dx2, fs2, v2, hb2, hl2, k1, k2, k3, k4, cv2, hR2, lm2, lf2, sn2, ss2⟩ := bo1
    obtain ⟨a1, a2, a3, a4⟩ := ss2 m om rfl
    have sa := a2
    obtain ⟨dx3, u3, d3, fs3, vt, ou, od, hm, howm, dj, nu, nd, m1, m2, m3, m4, su, sd⟩ := a2
    refine ⟨m, dx3, fs3, rfl, hm, m4 _ mlk, ?_⟩
    wtm_at "ev_go"
    refine ⟨m, n, om, _, _, rfl, h1, nn, sa, fun x H2 om' hx f2 g2 s2 => ?_⟩
    have bo3 := bo2.asked f2 g2 s2
    refine q1 nc h1 x H2 (ownB b l (some (m, om'))) (fun z => ?_) (fun z => ?_) ⟨fun c o e w => f2.1 c o (f1.1 c o e (w.imp (fun h z => h ((how c).mpr z)) id)) (w.imp (fun h z => ?_) id), fun c h => f2.2 c (f1.2 c h)⟩ (fun c h => ?_) ⟨⟨l, some (m, om'), bo3, fun c => Iff.rfl⟩, ask.n, ask.l, ask.lo, ask.hi⟩
    · first | exact hx | cases z
    · first | exact hx | cases z
    · rcases g1 c (.inr (.inr z)) with y | y
      · exact h ((how c).mpr y)
      · rw [y] at e
        cases e
    · have up1 : ∀ c, ownB b l (some (m, om)) c → ow c ∨ H c = none := fun c h => (g1 c h).imp (fun h => (how c).mpr h) id
      rcases h with h | h | h
      · exact up1 c (.inl h)
      · exact up1 c (.inr (.inl h))
      · rcases g2 c h with h | h
        · exact up1 c (.inr (.inr h))
        · right
          cases z : H c with
          | none => rfl
          | some o => exact absurd h (f1.2 c (by rw [z]; intro y; cases y))
end
/-- a fraction in lowest terms -/
def lowT (x : Int × Int) : Int × Int := (x.1 / ((Nat.gcd x.1.natAbs x.2.natAbs : Nat) : Int), x.2 / ((Nat.gcd x.1.natAbs x.2.natAbs : Nat) : Int))
def spLT : Sp := fun vs H Q _ => ∃ (x y : Int), vs = [.int x, .int y] ∧ 0 < y ∧ Num y ∧ ∀ p, H p = none → Q (.ref p) (upd H p (.tup [.int (lowT (x, y)).1, .int (lowT (x, y)).2]))
def spSh (cB cW : Addr) : Sp := fun vs H Q E => ∃ (b : Addr) (lo hi : Int) (L : List V) (rs : List R3), vs = [.ref b] ∧ BookAt cB H b lo hi L rs ∧ L.length ≤ 1000 ∧ Num lo ∧ Num hi ∧ Wide1 ((1, lo, hi) :: rs) ∧
  (NoConf ((1, lo, hi) :: rs) → ∀ (p t1 t2 : Addr) (H' : Hp), Same H H' → H p = none → H' p = some (.tup [.ref t1, .ref t2]) → H' t1 = some (.tup [.int (lowT (highM (1, lo, hi) rs)).1, .int (lowT (highM (1, lo, hi) rs)).2]) → H' t2 = some (.tup [.int (lowT (lowM (1, lo, hi) rs)).1, .int (lowT (lowM (1, lo, hi) rs)).2]) → Q (.ref p) H') ∧
  ∀ (p : Addr) (i j : Nat), H p = some (.tup [.int i, .int j]) → FirstConf ((1, lo, hi) :: rs) i j → ∀ (d : Addr) (H' : Hp), Same H H' → Raised H' d (.ref p) → E (.ref cW) (some d) H'
section
variable {P : Program} {w : World} {K : PySem.W.Frag} {mg : Str → Option Value} {base : Heap} {fI cD cR cB fB fN cW cL : Addr}
theorem ok_lowest_terms {f : Addr} {fd : FuncData} (F : Fun K "lowest_terms" "lowest_terms" s_lowest_terms f fd) (S : TxH mg) : FnOk P w K mg base CX0 1 f fd ["above", "below"] spLT := by
  refine F.ok sc_lowest_terms (fun vs H Q E h => ?_) (fun cdv A outer s H vs Q E hr h => ?_)
  · obtain ⟨x, y, rfl, _⟩ := h
    rfl
  · obtain ⟨x, y, rfl, y0, ny, q⟩ := h
    refine ⟨_, (pss_cons (ps_set (i := 2) sc_lowest_terms.nd rfl (Or.inl rfl) (pe_callBfun L2.cr_gcd (by rfl) S.gcd (pa_cons (pv 0) (pa_cons (pv 1) pa_nil))))
      (pss_one (ps_ret (pe_tup (pa_cons (pe_op op_fdivW (pv 0) (pv 2)) (pa_cons (pe_op op_fdivW (pv 1) (pv 2)) pa_nil)))))), ?_⟩
    wtm_at "ev_go"
    refine rd_gcd ?_
    have g0 : 0 < Nat.gcd x.natAbs y.natAbs := Nat.gcd_pos_of_pos_right _ (by omega)
    have gy : Nat.gcd x.natAbs y.natAbs ≤ y.natAbs := Nat.le_of_dvd (by omega) (Nat.gcd_dvd_right _ _)
    have cd : ∀ i : Int, CDivW i ((Nat.gcd x.natAbs y.natAbs : Nat) : Int) := fun i => wide_div (b := 1000) (by omega) (by rw [Int.natAbs_natCast]; exact Nat.lt_of_le_of_lt gy ny) (by decide) (by decide)
    wtm_at "ev_go"
    refine rd_rI (cd _) ?_
    wtm_at "ev_go"
    refine rd_rI (cd _) ?_
    wtm_at "ev_go"
    exact q
theorem ok_shares {f fR : Addr} {fd fdR fdB : FuncData} (F : Fun K "shares" "shares" s_shares f fd) (T : TxB K mg fI cD cR cB fB fN) (GRo : CalX P w K mg base 3 "check_rows" fR fdR ["book"] (spRows cB cW)) (GL : CalN P w K mg base 1 "lowest_most" (spLow K)) (GH : CalN P w K mg base 1 "highest_least" (spHigh K)) (GLT : CalN P w K mg base 1 "lowest_terms" spLT)
    (GB : FnOk P w K mg base CX0 1 fB fdB ["self"] (spBnd cB)) (bB : Binds K fdB ["self"] []) : FnOk P w K mg base (L2.CX P w) 4 f fd ["book"] (spSh cB cW) := by
  refine F.okX sc_shares (fun vs H Q E h => ?_) (fun cdv A outer s H vs Q E hr h => ?_)
  · obtain ⟨b, lo, hi, L, rs, rfl, _⟩ := h
    rfl
  · obtain ⟨b, lo, hi, L, rs, rfl, bk, ll, nlo, nhi, wide, q1, q2⟩ := h
    obtain ⟨dx, l, fs, v, ha, hl, l1, l2, l3, l4, cv, hR, l5⟩ := id bk
    refine ⟨_, (pss_cons (ps_expr (pe_cX GRo hr (by decide) (passes_call (takes_of rfl rfl rfl rfl) (fun _ _ _ _ h => h)) (by rfl) (pa_cons (pv 0) pa_nil)))
      (pss_cons (ps_asg (pe_cN GH hr (by decide) (by rfl) (pa_cons (pe_meth0 (pv 0) T.cls T.mB GB (hr.mono (by decide)) bB .nil pass0) pa_nil)) (pg_tup rfl (pgs_cons (pg_name (i := 1) sc_shares.nd rfl (Or.inl rfl)) (pgs_cons (pg_name (i := 2) sc_shares.nd rfl (Or.inl rfl)) pgs_nil))))
      (pss_cons (ps_asg (pe_cN GL hr (by decide) (by rfl) (pa_cons (pe_meth0 (pv 0) T.cls T.mB GB (hr.mono (by decide)) bB .nil pass0) pa_nil)) (pg_tup rfl (pgs_cons (pg_name (i := 3) sc_shares.nd rfl (Or.inl rfl)) (pgs_cons (pg_name (i := 4) sc_shares.nd rfl (Or.inl rfl)) pgs_nil))))
      (pss_one (ps_ret (pe_tup (pa_cons (pe_cN GLT hr (by decide) (by rfl) (pa_cons (pv 1) (pa_cons (pv 2) pa_nil))) (pa_cons (pe_cN GLT hr (by decide) (by rfl) (pa_cons (pv 3) (pa_cons (pv 4) pa_nil))) pa_nil)))))))), ?_⟩
    wtm_at "ev_go"
    refine ⟨b, lo, hi, L, rs, rfl, bk, fun nc => ?_, q2⟩
    wtm_at "ev_go"
    refine ⟨b, dx, fs, rfl, ha, l5 _ (by decide +kernel), ?_⟩
    wtm_at "ev_go"
    refine ⟨b, dx, l, fs, lo, hi, L, rs, rfl, ha, l1, l2, l3, hl, hR, ll, nlo, nhi, fun p1 L1 H1 s1 hp1 r1 => ?_⟩
    wtm_at "ev_go"
    refine ⟨p1, L1, (1, lo, hi), rs, rfl, SqL.of hp1, r1, fun p2 hp2 n1 n2 => ?_⟩
    have s2 := s1.trans (Same.new (o := .tup [.int (highM (1, lo, hi) rs).1, .int (highM (1, lo, hi) rs).2]) hp2)
    wtm_at "ev_go"
    refine ⟨b, dx, fs, rfl, s2 _ _ ha, l5 _ (by decide +kernel), ?_⟩
    wtm_at "ev_go"
    refine ⟨b, dx, l, fs, lo, hi, L, rs, rfl, s2 _ _ ha, l1, l2, l3, s2 _ _ hl, hR.mono s2, ll, nlo, nhi, fun p3 L3 H3 s3 hp3 r3 => ?_⟩
    wtm_at "ev_go"
    refine ⟨p3, L3, (1, lo, hi), rs, rfl, SqL.of hp3, r3, fun p4 hp4 n3 n4 => ?_⟩
    have s4 := (s2.trans s3).trans (Same.new (o := .tup [.int (lowM (1, lo, hi) rs).1, .int (lowM (1, lo, hi) rs).2]) hp4)
    have posH : 0 < (highM (1, lo, hi) rs).2 := by
      obtain ⟨⟨z, hz, e⟩, _⟩ := high_is (1, lo, hi) rs wide
      rw [e]
      have := wide z hz
      show 0 < z.1
      omega
    have posL : 0 < (lowM (1, lo, hi) rs).2 := by
      obtain ⟨⟨z, hz, e⟩, _⟩ := low_is (1, lo, hi) rs wide
      rw [e]
      have := wide z hz
      show 0 < z.1
      omega
    wtm_at "ev_go"
    refine ⟨_, _, rfl, posH, n2, fun t1 ht1 => ?_⟩
    wtm_at "ev_go"
    refine ⟨_, _, rfl, posL, n4, fun t2 ht2 => ?_⟩
    wtm_at "ev_go"
    intro p hp
    have s5 := s4.trans (Same.new (o := .tup [.int (lowT (highM (1, lo, hi) rs)).1, .int (lowT (highM (1, lo, hi) rs)).2]) ht1)
    have s6 := s5.trans (Same.new (o := .tup [.int (lowT (lowM (1, lo, hi) rs)).1, .int (lowT (lowM (1, lo, hi) rs)).2]) ht2)
    exact q1 nc p t1 t2 _ (s6.trans (Same.new hp)) (s6.free hp) upd_same (lk_ne (ne_of_none (lk_ne (ne_of_none upd_same ht2) upd_same) hp) (lk_ne (ne_of_none upd_same ht2) upd_same)) (lk_ne (ne_of_none upd_same hp) upd_same)
end
end

section
theorem FrO.free' {ow : Addr → Prop} {H H' : Hp} {p : Addr} (h : FrO ow H H') (hp : H' p = none) : H p = none := by
  cases e : H p with
  | none => rfl
  | some o => exact absurd hp (h.2 p (by rw [e]; exact fun z => by cases z))

/-! ### what bounds tell of one another -/
/-- B tells C: each way of C has one of B of no more worth -/
def TellsB (B C : List R3) : Prop := ∀ n x, Wg (upS C) (dnS C) n x → ∃ y, y ≤ x ∧ Wg (upS B) (dnS B) n y
/-- B tells the bound r -/
def Told1 (B : List R3) (r : R3) : Prop := (∃ y, y ≤ r.2.2 ∧ Wg (upS B) (dnS B) r.1 y) ∧ ∃ x, x ≤ -r.2.1 ∧ Wg (upS B) (dnS B) (-r.1) x
theorem up_mem {B : List R3} {r : R3} (h : r ∈ B) : (r.1, r.2.2) ∈ upS B := List.mem_map.mpr ⟨r, h, rfl⟩
theorem dn_mem {B : List R3} {r : R3} (h : r ∈ B) : (r.1, -r.2.1) ∈ dnS B := List.mem_map.mpr ⟨r, h, rfl⟩
theorem TellsB.refl {B : List R3} : TellsB B B := fun n x h => ⟨x, Int.le_refl _, h⟩
theorem TellsB.trans {B C D : List R3} (h : TellsB B C) (g : TellsB C D) : TellsB B D := fun n x w => by
  obtain ⟨y, l, w⟩ := g n x w
  obtain ⟨z, l2, w⟩ := h n y w
  exact ⟨z, Int.le_trans l2 l, w⟩
theorem TellsB.of {B C : List R3} (h : ∀ r ∈ C, Told1 B r) : TellsB B C := fun n x w => by
  refine wg_kept (fun s hs => ?_) (fun s hs => ?_) w
  · obtain ⟨r, hr, rfl⟩ := List.mem_map.mp hs
    exact (h r hr).1
  · obtain ⟨r, hr, rfl⟩ := List.mem_map.mp hs
    exact (h r hr).2
theorem Told1.mem {B : List R3} {r : R3} (h : r ∈ B) : Told1 B r := ⟨⟨_, Int.le_refl _, Wg.fwd (up_mem h)⟩, ⟨_, Int.le_refl _, Wg.bwd (dn_mem h)⟩⟩
theorem Told1.mono {B C : List R3} {r : R3} (h : TellsB B C) (g : Told1 C r) : Told1 B r := by
  obtain ⟨⟨y, l, w⟩, x, l2, w2⟩ := g
  obtain ⟨y', m, v⟩ := h _ _ w
  obtain ⟨x', m2, v2⟩ := h _ _ w2
  exact ⟨⟨y', Int.le_trans m l, v⟩, x', Int.le_trans m2 l2, v2⟩
theorem TellsB.told {B C : List R3} {r : R3} (h : TellsB B C) (hr : r ∈ C) : Told1 B r := (Told1.mem hr).mono h
theorem TellsB.sub {B C : List R3} (h : ∀ r ∈ C, r ∈ B) : TellsB B C := .of fun r hr => .mem (h r hr)
/-- bounds of a book that has rows -/
structure Rw (B : List R3) : Prop where
  w : Wide1 B
  nc : NoConf B
  d : ∃ lo hi rs, B = (1, lo, hi) :: rs
theorem Rw.share {B : List R3} (h : Rw B) : ∃ M W : Int, 0 < W ∧ ∀ r ∈ B, r.2.1 * W ≤ M * r.1 ∧ M * r.1 ≤ r.2.2 * W := by
  obtain ⟨lo, hi, rs, rfl⟩ := h.d
  exact share_of h.w h.nc
theorem Rw.worth {B : List R3} {M W : Int} (hW : 0 < W) (h : ∀ r ∈ B, r.2.1 * W ≤ M * r.1 ∧ M * r.1 ≤ r.2.2 * W) {n x : Int} (w : Wg (upS B) (dnS B) n x) : M * n ≤ x * W := by
  refine excess hW (fun s hs => ?_) (fun s hs => ?_) w
  · obtain ⟨r, hr, rfl⟩ := List.mem_map.mp hs
    exact (h r hr).2
  · obtain ⟨r, hr, rfl⟩ := List.mem_map.mp hs
    have := (h r hr).1
    show 0 ≤ -r.2.1 * W + M * r.1
    rw [Int.neg_mul]
    omega
theorem Rw.ex {B : List R3} (h : Rw B) (n : Int) : ∃ x, Least (upS B) (dnS B) n x := by
  obtain ⟨M, W, hW, sh⟩ := h.share
  have way : ∃ x, Wg (upS B) (dnS B) n x := by
    obtain ⟨lo, hi, rs, rfl⟩ := h.d
    have m : (1, lo, hi) ∈ (1, lo, hi) :: rs := List.mem_cons_self
    by_cases c : 0 ≤ n
    · obtain ⟨k, rfl⟩ : ∃ k : Nat, n = k := ⟨n.toNat, by omega⟩
      have this : Wg (upS ((1, lo, hi) :: rs)) (dnS ((1, lo, hi) :: rs)) ((k : Int) * 1) (k * hi) := Wg.rep (up_mem m) k
      rw [Int.mul_one] at this
      exact ⟨_, this⟩
    · obtain ⟨k, rfl⟩ : ∃ k : Nat, n = -(k : Int) := ⟨(-n).toNat, by omega⟩
      have this : Wg (upS ((1, lo, hi) :: rs)) (dnS ((1, lo, hi) :: rs)) (-((k : Int) * 1)) (k * -lo) := (Wg.rep (dn_mem m) k).swap
      rw [Int.mul_one] at this
      exact ⟨_, this⟩
  obtain ⟨x, w⟩ := way
  have lowb : ∀ y, Wg (upS B) (dnS B) n y → M * n ≤ y * W := fun y hy => Rw.worth hW sh hy
  have fin : ∀ (k : Nat) (x : Int), Wg (upS B) (dnS B) n x → x * W - M * n ≤ k → ∃ x, Least (upS B) (dnS B) n x := by
    intro k
    induction k with
    | zero =>
      intro x w l
      refine ⟨x, w, fun y hy => ?_⟩
      have := lowb y hy
      refine Int.le_of_mul_le_mul_right (show x * W ≤ y * W by omega) hW
    | succ k ih =>
      intro x w l
      by_cases c : ∃ y, Wg (upS B) (dnS B) n y ∧ y < x
      · obtain ⟨y, wy, ly⟩ := c
        refine ih y wy ?_
        have : (y + 1) * W ≤ x * W := Int.mul_le_mul_of_nonneg_right (by omega) (by omega)
        rw [Int.add_mul] at this
        omega
      · exact ⟨x, w, fun y hy => Int.not_lt.mp fun z => c ⟨y, hy, z⟩⟩
  exact fin (x * W - M * n).toNat x w (by omega)
theorem Rw.up {B : List R3} (h : Rw B) (n : Int) : ∃ x, Least (upS B) (dnS B) n x := h.ex n
theorem Rw.dn {B : List R3} (h : Rw B) (n : Int) : ∃ x, Least (dnS B) (upS B) n x := by
  obtain ⟨x, l⟩ := h.ex (-n)
  have := least_swap l
  rw [Int.neg_neg] at this
  exact ⟨x, this⟩
/-- bounds that are told leave the rows -/
theorem Rw.add {B C : List R3} (h : Rw B) (hw : Wide1 C) (hC : ∀ r ∈ C, Told1 B r) : NoConf C := by
  obtain ⟨M, W, hW, sh⟩ := h.share
  refine noconf_of_share (o := M) hW hw fun r hr => ?_
  obtain ⟨⟨y, l, w⟩, x, l2, w2⟩ := hC r hr
  have a := Rw.worth hW sh w
  have b := Rw.worth hW sh w2
  have c : y * W ≤ r.2.2 * W := Int.mul_le_mul_of_nonneg_right l (by omega)
  have d : x * W ≤ -r.2.1 * W := Int.mul_le_mul_of_nonneg_right l2 (by omega)
  rw [Int.neg_mul] at d
  rw [Int.mul_neg] at b
  rw [Int.mul_comm r.1 M]
  omega
/-! sums of n days that are alike -/
def AlikeG (B C : List R3) (n : Int) : Prop := ∀ x y, Least (upS B) (dnS B) n x → Least (upS C) (dnS C) n y → x = y
def AlikeL (B C : List R3) (n : Int) : Prop := ∀ x y, Least (dnS B) (upS B) n x → Least (dnS C) (upS C) n y → x = y
theorem TellsB.le {B C : List R3} {n x y : Int} (h : TellsB B C) (a : Least (upS B) (dnS B) n x) (b : Least (upS C) (dnS C) n y) : x ≤ y := by
  obtain ⟨z, l, w⟩ := h _ _ b.1
  exact Int.le_trans (a.2 z w) l
theorem TellsB.leD {B C : List R3} {n x y : Int} (h : TellsB B C) (a : Least (dnS B) (upS B) n x) (b : Least (dnS C) (upS C) n y) : x ≤ y := h.le (least_swap a) (least_swap b)
theorem alike_of {B C : List R3} (h : TellsB B C) (g : TellsB C B) (n : Int) : AlikeG B C n ∧ AlikeL B C n :=
  ⟨fun x y a b => Int.le_antisymm (h.le a b) (g.le b a), fun x y a b => Int.le_antisymm (h.leD a b) (g.leD b a)⟩
theorem AlikeG.symm {B C : List R3} {n : Int} (h : AlikeG B C n) : AlikeG C B n := fun x y a b => (h y x b a).symm
theorem AlikeL.symm {B C : List R3} {n : Int} (h : AlikeL B C n) : AlikeL C B n := fun x y a b => (h y x b a).symm
theorem reach_self {B : List R3} {r : Nat} (h1 : 1 ≤ r) (h2 : r ≤ 100) (hw : ∀ s ∈ B, 1 ≤ s.1 ∧ s.1 ≤ r) : ReachOk (upS B) (dnS B) r := by
  refine ⟨h1, h2, upS B, dnS B, fun s hs => ⟨hs, ?_⟩, fun s hs => ⟨hs, ?_⟩, fun n x h => ⟨x, Int.le_refl _, h⟩⟩
  · obtain ⟨r, hr, rfl⟩ := List.mem_map.mp hs
    exact hw r hr
  · obtain ⟨r, hr, rfl⟩ := List.mem_map.mp hs
    exact hw r hr
/-- sums alike up to the reach: one tells the other -/
theorem alike_tells {B C : List R3} (hB : Rw B) (hC : Rw C) {r R : Nat} (rk : ReachOk (upS B) (dnS B) r) (hr : r ≤ R) (h : ∀ n : Nat, 1 ≤ n → n ≤ R → AlikeG B C n ∧ AlikeL B C n) : TellsB C B := fun n x w => by
  obtain ⟨_, _, us, ds, hu, hd, tl⟩ := rk
  obtain ⟨y, l, w⟩ := tl n x w
  have : ∃ z, z ≤ y ∧ Wg (upS C) (dnS C) n z := by
    refine wg_kept (fun s hs => ?_) (fun s hs => ?_) w
    · obtain ⟨m, a, b⟩ := hu s hs
      obtain ⟨k, hk⟩ : ∃ k : Nat, s.1 = k := ⟨s.1.toNat, by omega⟩
      obtain ⟨g1, g2⟩ := h k (by omega) (by omega)
      obtain ⟨u, lu⟩ := hB.up k
      obtain ⟨v, lv⟩ := hC.up k
      have e := g1 u v lu lv
      have := lu.2 s.2 (hk ▸ Wg.fwd m)
      exact ⟨v, by omega, hk ▸ lv.1⟩
    · obtain ⟨m, a, b⟩ := hd s hs
      obtain ⟨k, hk⟩ : ∃ k : Nat, s.1 = k := ⟨s.1.toNat, by omega⟩
      obtain ⟨g1, g2⟩ := h k (by omega) (by omega)
      obtain ⟨u, lu⟩ := hB.dn k
      obtain ⟨v, lv⟩ := hC.dn k
      have e := g2 u v lu lv
      have := lu.2 s.2 (hk ▸ Wg.fwd m)
      exact ⟨v, by omega, hk ▸ lv.1.swap⟩
  obtain ⟨z, l2, w⟩ := this
  exact ⟨z, Int.le_trans l2 l, w⟩
end

section
section
variable {K : PySem.W.Frag} {σ : L2.St} {H : Hp} {D : Ends}
theorem rd_rng2 {ta : TA} {R : It → Hp → Prop} (h : ta σ H fun vs H1 => ∃ i j : Int, vs = [.int i, .int j] ∧ (-(2 ^ 62) ≤ i ∧ i < 2 ^ 62 ∧ -(2 ^ 62) ≤ j ∧ j < 2 ^ 62) ∧ R (Itr i (j - i).toNat) H1) : iRng2 ta σ H R := h
theorem rd_forF {ta : TA} {g : TG} {tb : TS} (h : iRng2 ta σ H fun J H1 => tFor (fun _ H' R => R J H') g tb D σ H1) : tFor (iRng2 ta) g tb D σ H := h
theorem rd_rg2 {i j : Int} {A : Prop} (h1 : -1000000 ≤ i ∧ i ≤ 1000000) (h2 : -1000000 ≤ j ∧ j ≤ 1000000) (q : A) : (-(2 ^ 62) ≤ i ∧ i < 2 ^ 62 ∧ -(2 ^ 62) ≤ j ∧ j < 2 ^ 62) ∧ A := ⟨by omega, q⟩
theorem rd_revR {tr : L2.St → Hp → (Int → Int → Hp → Prop) → Prop} {g : TG} {tb : TS} (h : iRevR tr σ H fun J H1 => tFor (fun _ H' R => R J H') g tb D σ H1) : tFor (iRevR tr) g tb D σ H := h
theorem rd_iRev {tr : L2.St → Hp → (Int → Int → Hp → Prop) → Prop} {R : It → Hp → Prop} (h : tr σ H fun a b H1 => -(2 ^ 62) ≤ a ∧ a < 2 ^ 62 ∧ -(2 ^ 62) ≤ b ∧ b < 2 ^ 62 ∧ R (Itc (a + (((b - a).toNat : Nat) : Int) - 1) (-1) (b - a).toNat) H1) : iRevR tr σ H R := h
theorem rd_rg1 {ta : TE} {Q : Int → Int → Hp → Prop} (h : ta σ H fun x H1 => ∃ n, x = .int n ∧ Q 0 n H1) : tRg1 ta σ H Q := h
theorem rd_forRC {lo c : Int} {n : Nat} {g : TG} {tb : TS} (Pv : Nat → L2.St → Hp → Prop) (h0 : Pv 0 σ H) (hs : ∀ i σ H, i < n → Pv i σ H → g (.int (lo + (i : Nat) * c)) σ H fun σ2 H2 => tb { D with nx := Pv (i + 1), ct := Pv (i + 1), bk := D.nx } σ2 H2)
    (hd : ∀ σ H, Pv n σ H → D.nx σ H) : tFor (fun _ H' R => R (Itc lo c n) H') g tb D σ H := for_rangeC Pv h0 hs hd
end
theorem num_neg {i : Int} (h : Num i) : Num (-i) := by
  unfold Num at h ⊢
  rw [Int.natAbs_neg]
  exact h
/-- what the making of a book asks and gives, its numbers fine; l: its own list, new -/
theorem book_okN {C cD cR : Addr} {H : Hp} {Q : Addr → Hp → Prop} {E : XK} {c : Addr} {lo hi : Int} {R : List V} {rs : List R3} (hc : H c = some (.lst R)) (hR : RlR H R rs) (hle : R.length ≤ 1000) (nlo : Num lo) (nhi : Num hi) (lohi : lo ≤ hi) (fine : Fine rs)
    (q : ∀ (a l : Addr) (H' : Hp), Same H H' → H a = none → H l = none → BookN C H' a l lo hi R rs → Q a H') :
    ∀ x dx, H x = none → H dx = none → dx ≠ x → spBook C cD cR (.ref x :: ([.int lo, .int hi, .ref c] ++ [])) (upd (upd H dx (.own x)) x (.ins C dx [])) (fun v H2 => v = .non ∧ Q x H2) E := by
  intro x dx hx hdx ne
  have sN : Same H (upd (upd H dx (.own x)) x (.ins C dx [])) := (Same.new hdx).trans (Same.new (by rw [upd_ne (Ne.symm ne)]; exact hx))
  refine ⟨x, dx, c, lo, hi, R, rs, rfl, upd_same, sN _ _ hc, hR.mono sN, hle, nlo, nhi, fun h => absurd h (by omega), fun _ i d H' bad _ _ => ?_, fun _ _ H' l fr hl bk => ⟨rfl, ?_⟩⟩
  · obtain ⟨r, e, b, _⟩ := bad
    rw [fine _ _ e] at b
    cases b
  · exact q x l H' (fun b o z => fr b o (sN b o z) (ne_of_none z hx)) hx (sN.free hl) bk
theorem cutV_tail {xs : List V} {k : Nat} : cutV xs (some (k : Int)) none = xs.drop k := by
  unfold cutV
  rw [HT.sIx_nat, HT.sIx_none]
  by_cases h : k ≤ xs.length
  · rw [Nat.min_eq_left h]
    refine List.take_of_length_le ?_
    rw [List.length_drop]
    exact Nat.le_refl _
  · rw [Nat.min_eq_right (by omega), List.drop_of_length_le (Nat.le_refl _), List.drop_of_length_le (by omega), List.take_nil]
theorem FrO.same {ow : Addr → Prop} {H0 H H' : Hp} (f : FrO ow H H') (s : Same H0 H) (n : ∀ c, ow c → H0 c = none) : Same H0 H' := fun c o e => f.1 c o (s c o e) (.inl fun z => by
  rw [n c z] at e
  cases e)
theorem RlR.without {H : Hp} {L : List V} {rs : List R3} (h : RlR H L rs) (k : Nat) : RlR H (L.take k ++ L.drop (k + 1)) (rs.take k ++ rs.drop (k + 1)) := by
  refine ⟨by simp only [List.length_append, List.length_take, List.length_drop, h.1], fun i v e => ?_⟩
  by_cases c : i < (L.take k).length
  · rw [List.getElem?_append_left c] at e
    rw [List.length_take] at c
    rw [List.getElem?_take, if_pos (by omega)] at e
    obtain ⟨a, r, q1, q2, q3⟩ := h.2 i v e
    exact ⟨a, r, q1, by rw [List.getElem?_append_left (by rw [List.length_take, ← h.1]; omega), List.getElem?_take, if_pos (by omega)]; exact q2, q3⟩
  · rw [List.getElem?_append_right (by omega), List.getElem?_drop] at e
    obtain ⟨a, r, q1, q2, q3⟩ := h.2 _ v e
    exact ⟨a, r, q1, by rw [List.getElem?_append_right (by rw [List.length_take, ← h.1]; rw [List.length_take] at c; omega), List.getElem?_drop, List.length_take, ← h.1]; rw [List.length_take] at q2; exact q2, q3⟩

/-! ### several books that are asked by turns, a pool, and what stays -/
structure Bk where
  b : Addr
  lo : Int
  hi : Int
  L : List V
  rs : List R3
def Bk.B (k : Bk) : List R3 := (1, k.lo, k.hi) :: k.rs
/-- the books of S, each with what it owns, all within ow -/
def Bks (cB cM cS : Addr) (H : Hp) (ow : Addr → Prop) (S : List Bk) : Prop := ∃ o : Nat → Addr → Prop, (∀ i k, S[i]? = some k → AskB cB cM cS H k.b (o i) k.lo k.hi k.L k.rs) ∧ (∀ i j c, i ≠ j → i < S.length → j < S.length → o i c → ¬ o j c) ∧ ∀ i c, i < S.length → o i c → ow c
/-- from H on to H': all stays but p and what is owned, tuples stay, what is owned then was owned or is new -/
structure Go (p : Addr) (H : Hp) (ow : Addr → Prop) (H' : Hp) (ow' : Addr → Prop) : Prop where
  k : ∀ c o, H c = some o → c ≠ p → ¬ ow c → H' c = some o
  t : ∀ c xs, H c = some (.tup xs) → H' c = some (.tup xs)
  a : ∀ c, H c ≠ none → H' c ≠ none
  w : ∀ c, ow' c → ow c ∨ H c = none
theorem AskB.same' {cB cM cS b : Addr} {H H' : Hp} {ow : Addr → Prop} {lo hi : Int} {L : List V} {rs : List R3} (h : AskB cB cM cS H b ow lo hi L rs) (s : Same H H') : AskB cB cM cS H' b ow lo hi L rs := ⟨h.s.same s, h.n, h.l, h.lo, h.hi⟩
theorem AskB.keepA {cB cM cS b : Addr} {H H' : Hp} {ow : Addr → Prop} {lo hi : Int} {L : List V} {rs : List R3} (h : AskB cB cM cS H b ow lo hi L rs) (k : ∀ c o, H c = some o → (ow c ∨ ∃ xs, o = .tup xs) → H' c = some o) : AskB cB cM cS H' b ow lo hi L rs := ⟨h.s.keep k, h.n, h.l, h.lo, h.hi⟩
section
variable {cB cM cS p : Addr} {H H' H'' H0 : Hp} {ow ow' ow'' : Addr → Prop} {S : List Bk} {L L' : List V} {n n' : Int} {k : Bk}
theorem Go.refl : Go p H ow H ow := ⟨fun _ _ e _ _ => e, fun _ _ e => e, fun _ e => e, fun _ h => .inl h⟩
theorem Go.trans (g : Go p H ow H' ow') (f : Go p H' ow' H'' ow'') : Go p H ow H'' ow'' := by
  refine ⟨fun c o e np no => f.k c o (g.k c o e np no) np fun z => ?_, fun c xs e => f.t c xs (g.t c xs e), fun c e => f.a c (g.a c e), fun c z => ?_⟩
  · rcases g.w c z with z | z
    · exact no z
    · rw [e] at z; cases z
  · rcases f.w c z with z | z
    · exact g.w c z
    · refine .inr ?_
      cases e : H c with
      | none => rfl
      | some o => exact absurd z (g.a c (by rw [e]; exact fun y => by cases y))
/-- what is there, not owned, not the pool: it stays so -/
theorem Go.keep {c : Addr} {o : HO} (g : Go p H ow H' ow') (e : H c = some o) (np : c ≠ p) (no : ¬ ow c) : H' c = some o ∧ ¬ ow' c := ⟨g.k c o e np no, fun z => by
  rcases g.w c z with z | z
  · exact no z
  · rw [e] at z; cases z⟩
theorem Go.rlr {R : List V} {rs : List R3} (g : Go p H ow H' ow') (h : RlR H R rs) : RlR H' R rs := h.keep g.t
theorem alive_same (s : Same H H') : ∀ c, H c ≠ none → H' c ≠ none := fun c e z => by
  cases y : H c with
  | none => exact e y
  | some o =>
    rw [s c o y] at z
    cases z
theorem Go.free {c : Addr} (g : Go p H ow H' ow') (h : H' c = none) : H c = none := by
  cases e : H c with
  | none => rfl
  | some o => exact absurd h (g.a c (by rw [e]; exact fun y => by cases y))
theorem Go.of_same (s : Same H H') : Go p H ow H' ow := ⟨fun c o e _ _ => s c o e, fun c xs e => s c _ e, alive_same s, fun c z => .inl z⟩
theorem alive_fr {o : HO} (hp' : H' p = some o) (f : Fr p H H') : ∀ c, H c ≠ none → H' c ≠ none := fun c e z => by
  by_cases cp : c = p
  · subst cp
    rw [hp'] at z
    cases z
  · cases y : H c with
    | none => exact e y
    | some o =>
      rw [f c o y cp] at z
      cases z
theorem Go.of_fr {L0 : List V} {o : HO} (hp : H p = some (.lst L0)) (hp' : H' p = some o) (f : Fr p H H') : Go p H ow H' ow := ⟨fun c o e np _ => f c o e np, fun c xs e => f c _ e (ne_of e hp (fun z => by cases z)), alive_fr hp' f, fun c z => .inl z⟩
theorem Bks.keepA (h : Bks cB cM cS H ow S) (k : ∀ c o, H c = some o → (ow c ∨ ∃ xs, o = .tup xs) → H' c = some o) : Bks cB cM cS H' ow S := by
  obtain ⟨o, h1, h2, h3⟩ := h
  exact ⟨o, fun i b e => (h1 i b e).keepA fun c q z w => k c q z (w.imp (fun y => h3 i c (List.getElem?_eq_some_iff.mp e).1 y) id), h2, h3⟩
/-- the pool at p, the books S, since H0 -/
structure St (cB cM cS p : Addr) (H0 H : Hp) (ow : Addr → Prop) (L : List V) (n : Int) (S : List Bk) : Prop where
  hp : H p = some (.lst L)
  pl : PoolL L n
  np : ¬ ow p
  bk : Bks cB cM cS H ow S
  g : Go p H0 (fun _ => False) H ow
  al : ∀ c, ow c → H c ≠ none
theorem St.start (hp : H p = some (.lst L)) (pl : PoolL L n) : St cB cM cS p H H (fun _ => False) L n [] := ⟨hp, pl, fun z => z, ⟨fun _ _ => False, (fun i k e => by cases e), fun i j c _ h => absurd h (Nat.not_lt_zero _), fun i c h => absurd h (Nat.not_lt_zero _)⟩, .refl, fun c z => z.elim⟩
theorem St.fr (h : St cB cM cS p H0 H ow L n S) : Fr p H0 H := fun b o e nb => h.g.k b o e nb fun z => z
theorem St.le (h : St cB cM cS p H0 H ow L n S) (l : n ≤ n') : St cB cM cS p H0 H ow L n' S := ⟨h.hp, h.pl.le l, h.np, h.bk, h.g, h.al⟩
theorem St.same (h : St cB cM cS p H0 H ow L n S) (s : Same H H') : St cB cM cS p H0 H' ow L n S ∧ Go p H ow H' ow := ⟨⟨s _ _ h.hp, h.pl, h.np, h.bk.keepA fun c o e _ => s c o e, h.g.trans (.of_same s), fun c z => alive_same s c (h.al c z)⟩, .of_same s⟩
theorem St.frp (h : St cB cM cS p H0 H ow L n S) (f : Fr p H H') (hp' : H' p = some (.lst L')) (pl : PoolL L' n') : St cB cM cS p H0 H' ow L' n' S ∧ Go p H ow H' ow := by
  have g : Go p H ow H' ow := .of_fr h.hp hp' f
  refine ⟨⟨hp', pl, h.np, h.bk.keepA fun c o e w => f c o e fun z => ?_, h.g.trans g, fun c z => g.a c (h.al c z)⟩, g⟩
  subst z
  rcases w with w | ⟨xs, rfl⟩
  · exact h.np w
  · rw [h.hp] at e; cases e
theorem St.draw (h : St cB cM cS p H0 H ow L n S) (pl : PoolL L' n') : St cB cM cS p H0 (upd H p (.lst L')) ow L' n' S ∧ Go p H ow (upd H p (.lst L')) ow := h.frp (fun b o e nb => lk_ne nb e) upd_same pl
theorem St.ask (h : St cB cM cS p H0 H ow L n S) {i : Nat} (e : S[i]? = some k) : ∃ oi : Addr → Prop, AskB cB cM cS H k.b oi k.lo k.hi k.L k.rs ∧ (∀ c, oi c → ow c) ∧
    ∀ (H' : Hp) (oi' : Addr → Prop), FrO oi H H' → (∀ c, oi' c → oi c ∨ H c = none) → AskB cB cM cS H' k.b oi' k.lo k.hi k.L k.rs → ∃ ow' : Addr → Prop, St cB cM cS p H0 H' ow' L n S ∧ Go p H ow H' ow' := by
  obtain ⟨o, h1, h2, h3⟩ := h.bk
  have il := (List.getElem?_eq_some_iff.mp e).1
  refine ⟨o i, h1 i k e, fun c z => h3 i c il z, fun H' oi' f g a => ?_⟩
  have gg : Go p H ow H' (fun c => ow c ∨ oi' c) := ⟨fun c q e _ no => f.1 c q e (.inl fun z => no (h3 i c il z)), fun c xs e => f.1 c _ e (.inr ⟨_, rfl⟩), f.2, fun c z => z.elim .inl fun z => (g c z).imp (h3 i c il) id⟩
  refine ⟨fun c => ow c ∨ oi' c, ⟨f.1 _ _ h.hp (.inl fun z => h.np (h3 i p il z)), h.pl, fun z => ?_, ⟨fun j => if j = i then oi' else o j, fun j q ej => ?_, fun j l c ne lj ll => ?_, fun j c lj => ?_⟩, h.g.trans gg, fun c z => z.elim (fun z => gg.a c (h.al c z)) (a.s.alive c)⟩, gg⟩
  · rcases z with z | z
    · exact h.np z
    · rcases g p z with z | z
      · exact h.np (h3 i p il z)
      · rw [h.hp] at z; cases z
  · by_cases c : j = i
    · subst c
      rw [e] at ej
      cases ej
      dsimp only
      rw [if_pos rfl]
      exact a
    · dsimp only
      rw [if_neg c]
      exact (h1 j q ej).keepA fun x y ex w => f.1 x y ex (w.imp (fun z y => h2 j i x c (List.getElem?_eq_some_iff.mp ej).1 il z y) id)
  · dsimp only
    have al : ∀ m, m < S.length → ∀ c, o m c → H c ≠ none := fun m hm c z => (h1 m S[m] (List.getElem?_eq_getElem hm)).s.alive c z
    by_cases c1 : j = i
    · rw [if_pos c1, if_neg (fun z => ne (by omega))]
      intro z y
      rcases g c z with z | z
      · exact h2 i l c (by omega) il ll z y
      · exact al l ll c y z
    · by_cases c2 : l = i
      · rw [if_neg c1, if_pos c2]
        intro y z
        rcases g c z with z | z
        · exact h2 i j c (by omega) il lj z y
        · exact al j lj c y z
      · rw [if_neg c1, if_neg c2]
        exact h2 j l c ne lj ll
  · dsimp only
    by_cases c1 : j = i
    · rw [if_pos c1]
      exact .inr
    · rw [if_neg c1]
      exact fun z => .inl (h3 j c lj z)
theorem St.ask2 (h : St cB cM cS p H0 H ow L n S) {i j : Nat} {k' : Bk} (e : S[i]? = some k) (e' : S[j]? = some k') (ne : i ≠ j) : ∃ oi oj : Addr → Prop, AskB cB cM cS H k.b oi k.lo k.hi k.L k.rs ∧ AskB cB cM cS H k'.b oj k'.lo k'.hi k'.L k'.rs ∧ (∀ x, oi x → ¬ oj x) ∧
    ∀ (H' : Hp) (oi' oj' : Addr → Prop), FrO (fun x => oi x ∨ oj x) H H' → (∀ c, oi' c → oi c ∨ H c = none) → (∀ c, oj' c → oj c ∨ H c = none) → (∀ x, oi' x → ¬ oj' x) → AskB cB cM cS H' k.b oi' k.lo k.hi k.L k.rs → AskB cB cM cS H' k'.b oj' k'.lo k'.hi k'.L k'.rs → ∃ ow' : Addr → Prop, St cB cM cS p H0 H' ow' L n S ∧ Go p H ow H' ow' := by
  obtain ⟨o, h1, h2, h3⟩ := h.bk
  have il := (List.getElem?_eq_some_iff.mp e).1
  have jl := (List.getElem?_eq_some_iff.mp e').1
  refine ⟨o i, o j, h1 i k e, h1 j k' e', fun x z y => h2 i j x ne il jl z y, fun H' oi' oj' f g g' dj a a' => ?_⟩
  have gg : Go p H ow H' (fun c => ow c ∨ oi' c ∨ oj' c) := ⟨fun c q e _ no => f.1 c q e (.inl fun z => no (z.elim (h3 i c il) (h3 j c jl))), fun c xs e => f.1 c _ e (.inr ⟨_, rfl⟩), f.2, fun c z => z.elim .inl fun z => z.elim (fun z => (g c z).imp (h3 i c il) id) (fun z => (g' c z).imp (h3 j c jl) id)⟩
  have al : ∀ m, m < S.length → ∀ c, o m c → H c ≠ none := fun m hm c z => (h1 m S[m] (List.getElem?_eq_getElem hm)).s.alive c z
  refine ⟨fun c => ow c ∨ oi' c ∨ oj' c, ⟨f.1 _ _ h.hp (.inl fun z => h.np (z.elim (h3 i p il) (h3 j p jl))), h.pl, fun z => ?_, ⟨fun m => if m = i then oi' else if m = j then oj' else o m, fun m q em => ?_, fun m l c nml lm ll => ?_, fun m c lm => ?_⟩, h.g.trans gg, fun c z => z.elim (fun z => gg.a c (h.al c z)) (fun z => z.elim (a.s.alive c) (a'.s.alive c))⟩, gg⟩
  · rcases z with z | z | z
    · exact h.np z
    · rcases g p z with z | z
      · exact h.np (h3 i p il z)
      · rw [h.hp] at z; cases z
    · rcases g' p z with z | z
      · exact h.np (h3 j p jl z)
      · rw [h.hp] at z; cases z
  · dsimp only
    by_cases c : m = i
    · subst c
      rw [e] at em
      cases em
      rw [if_pos rfl]
      exact a
    · by_cases c' : m = j
      · subst c'
        rw [e'] at em
        cases em
        rw [if_neg c, if_pos rfl]
        exact a'
      · rw [if_neg c, if_neg c']
        have ml := (List.getElem?_eq_some_iff.mp em).1
        exact (h1 m q em).keepA fun x y ex w => f.1 x y ex (w.imp (fun z y => y.elim (fun y => h2 m i x c ml il z y) (fun y => h2 m j x c' ml jl z y)) id)
  · dsimp only
    have cls : ∀ m, m < S.length → ∀ c, (if m = i then oi' else if m = j then oj' else o m) c → (m = i ∧ oi' c) ∨ (m = j ∧ m ≠ i ∧ oj' c) ∨ (m ≠ i ∧ m ≠ j ∧ o m c) := fun m hm c z => by
      by_cases c1 : m = i
      · rw [if_pos c1] at z; exact .inl ⟨c1, z⟩
      · rw [if_neg c1] at z
        by_cases c2 : m = j
        · rw [if_pos c2] at z; exact .inr (.inl ⟨c2, c1, z⟩)
        · rw [if_neg c2] at z; exact .inr (.inr ⟨c1, c2, z⟩)
    have one : ∀ m, m < S.length → m ≠ i → m ≠ j → o m c → ¬ oi' c ∧ ¬ oj' c := fun m hm c1 c2 z => ⟨fun y => by
      rcases g c y with y | y
      · exact h2 m i c c1 hm il z y
      · exact al m hm c z y, fun y => by
      rcases g' c y with y | y
      · exact h2 m j c c2 hm jl z y
      · exact al m hm c z y⟩
    intro z y
    rcases cls m lm c z with ⟨z1, z2⟩ | ⟨z1, z0, z2⟩ | ⟨z1, z0, z2⟩
    · rcases cls l ll c y with ⟨y1, y2⟩ | ⟨y1, y0, y2⟩ | ⟨y1, y0, y2⟩
      · omega
      · exact dj c z2 y2
      · exact (one l ll y1 y0 y2).1 z2
    · rcases cls l ll c y with ⟨y1, y2⟩ | ⟨y1, y0, y2⟩ | ⟨y1, y0, y2⟩
      · exact dj c y2 z2
      · omega
      · exact (one l ll y1 y0 y2).2 z2
    · rcases cls l ll c y with ⟨y1, y2⟩ | ⟨y1, y0, y2⟩ | ⟨y1, y0, y2⟩
      · exact (one m lm z1 z0 z2).1 y2
      · exact (one m lm z1 z0 z2).2 y2
      · exact h2 m l c nml lm ll z2 y2
  · dsimp only
    by_cases c1 : m = i
    · rw [if_pos c1]
      exact fun z => .inr (.inl z)
    · by_cases c2 : m = j
      · rw [if_neg c1, if_pos c2]
        exact fun z => .inr (.inr z)
      · rw [if_neg c1, if_neg c2]
        exact fun z => .inl (h3 m c lm z)
/-- one book more -/
theorem St.add {o : Addr → Prop} (h : St cB cM cS p H0 H ow L n S) (s : Same H H') (a : AskB cB cM cS H' k.b o k.lo k.hi k.L k.rs) (on : ∀ c, o c → H c = none) : St cB cM cS p H0 H' (fun c => ow c ∨ o c) L n (S ++ [k]) ∧ Go p H ow H' (fun c => ow c ∨ o c) := by
  have g : Go p H ow H' (fun c => ow c ∨ o c) := ⟨fun c q e _ _ => s c q e, fun c xs e => s c _ e, alive_same s, fun c z => z.imp id (on c)⟩
  obtain ⟨ob, h1, h2, h3⟩ := h.bk
  refine ⟨⟨s _ _ h.hp, h.pl, fun z => ?_, ⟨fun j => if j < S.length then ob j else o, fun j q ej => ?_, fun j l c ne lj ll => ?_, fun j c lj => ?_⟩, h.g.trans g, fun c z => z.elim (fun z => g.a c (h.al c z)) (a.s.alive c)⟩, g⟩
  · rcases z with z | z
    · exact h.np z
    · have := on p z; rw [h.hp] at this; cases this
  · dsimp only
    by_cases c : j < S.length
    · rw [if_pos c]
      rw [List.getElem?_append_left c] at ej
      exact (h1 j q ej).same' s
    · rw [if_neg c]
      rw [List.getElem?_append_right (by omega)] at ej
      have : j - S.length = 0 := by
        have := (List.getElem?_eq_some_iff.mp ej).1
        rw [List.length_singleton] at this
        omega
      rw [this] at ej
      cases ej
      exact a
  · dsimp only
    rw [List.length_append, List.length_singleton] at lj ll
    have al : ∀ m, m < S.length → ∀ c, ob m c → H c ≠ none := fun m hm c z => (h1 m S[m] (List.getElem?_eq_getElem hm)).s.alive c z
    by_cases c1 : j < S.length
    · by_cases c2 : l < S.length
      · rw [if_pos c1, if_pos c2]
        exact h2 j l c ne c1 c2
      · rw [if_pos c1, if_neg c2]
        exact fun z y => al j c1 c z (on c y)
    · by_cases c2 : l < S.length
      · rw [if_neg c1, if_pos c2]
        exact fun z y => al l c2 c y (on c z)
      · omega
  · dsimp only
    by_cases c1 : j < S.length
    · rw [if_pos c1]
      exact fun z => .inl (h3 j c c1 z)
    · rw [if_neg c1]
      exact .inr
end
end

end
section
local macro_rules | `(tactic| wtm_at "ev_step") => `(tactic| with_reducible first | refine rd_par ?_ | refine rd_par2 ?_ | refine rd_rng2 ?_ | refine rd_forF ?_ | refine rd_revR ?_ | refine rd_iRev ?_ | refine rd_rg1 ?_ | refine rd_par3 ?_ | refine rd_chain ?_)
section
/-- the most that the place so many days further, or back, can lie above a place -/
def spRise (cM cS : Addr) : Sp := fun vs H Q _ => ∃ (m : Addr) (n : Int) (ow : Addr → Prop) (us ds : List (Int × Int)), vs = [.ref m, .int n] ∧ Num n ∧ SumsAt cM cS H m ow us ds ∧
  ∀ (x : Int) (H' : Hp) (ow' : Addr → Prop), Least us ds n x → FrO ow H H' → (∀ c, ow' c → ow c ∨ H c = none) → SumsAt cM cS H' m ow' us ds → Q (.int x) H'
section
variable {P : Program} {w : World} {K : PySem.W.Frag} {mg : Str → Option Value} {base : Heap} {cM cS fS fM fG : Addr} {fdG : FuncData}
theorem ok_rise {f : Addr} {fd : FuncData} (F : Fun K "rise" "Sums.rise" s_Sums_rise f fd) (U : TxU K mg cM cS fS fM fG) (GG : FnOk P w K mg base CX0 3 fG fdG ["self", "length"] (spGr cS)) (bG : Binds K fdG ["self", "length"] []) : FnOk P w K mg base CX0 4 f fd ["self", "days"] (spRise cM cS) := by
  refine F.ok sc_Sums_rise (fun vs H Q E h => ?_) (fun cdv A outer s H vs Q E hr h => ?_)
  · obtain ⟨m, n, ow, us, ds, rfl, _⟩ := h
    rfl
  · obtain ⟨m, n, ow, us, ds, rfl, nn, ⟨dx, u, d, fs, vt, ou, od, hm, how, dj, nu, nd, l1, l2, l3, l4, su, sd⟩, q⟩ := h
    refine ⟨_, (pss_cons (ps_if (pt_cmpR op_lt (pv 1) pe_int (nomark _)) 
        (pss_one (ps_ret (pe_meth (pe_fld (pv 0) rfl) U.clsS U.mG GG (hr.mono (by decide)) bG .nil pass0 (pa_cons (pe_un un_neg (pv 1)) pa_nil)))) pss_nil)
      (pss_one (ps_ret (pe_meth (pe_fld (pv 0) rfl) U.clsS U.mG GG (hr.mono (by decide)) bG .nil pass0 (pa_cons (pv 1) pa_nil))))), ?_⟩
    wtm_at "ev_go"
    refine rd_ite (fun c => ?_) (fun c => ?_)
    · have sd0 := sd
      obtain ⟨xs, us', ds', r, W, T, far, ⟨dx2, ln, ls, fs2, L, vf, vn, ha, oa, on_, ol, nll, hn, hl, hM, ff, al, lf, k1, k2, k3, k4, k5, k6, k7, lm⟩, rest⟩ := sd
      wtm_at "ev_go"
      refine rd_fldA hm U.cls U.n2 l2 ?_
      refine ⟨d, dx2, fs2, rfl, ha, lm _ (by decide +kernel), ?_⟩
      wtm_at "ev_go"
      refine ⟨d, -n, od, _, rfl, by omega, num_neg nn, sd0, fun x H' od' hx fo gw sd' => ?_⟩
      obtain ⟨f1, ow', g1, s1⟩ := sums_down hm how dj nu nd l1 l2 l3 l4 su fo gw sd'
      obtain ⟨_, _, hx⟩ := hx
      rw [Int.toNat_of_nonneg (by omega)] at hx
      have := least_swap hx
      rw [Int.neg_neg] at this
      wtm_at "ev_go"
      exact q x H' ow' this f1 g1 s1
    · have su0 := su
      obtain ⟨xs, us', ds', r, W, T, far, ⟨dx2, ln, ls, fs2, L, vf, vn, ha, oa, on_, ol, nll, hn, hl, hM, ff, al, lf, k1, k2, k3, k4, k5, k6, k7, lm⟩, rest⟩ := su
      wtm_at "ev_go"
      refine rd_fldA hm U.cls U.n1 l1 ?_
      refine ⟨u, dx2, fs2, rfl, ha, lm _ (by decide +kernel), ?_⟩
      wtm_at "ev_go"
      refine ⟨u, n, ou, _, rfl, by omega, nn, su0, fun x H' ou' hx fo gw su' => ?_⟩
      obtain ⟨f1, ow', g1, s1⟩ := sums_up hm how dj nu nd l1 l2 l3 l4 sd fo gw su'
      obtain ⟨_, _, hx⟩ := hx
      rw [Int.toNat_of_nonneg (by omega)] at hx
      wtm_at "ev_go"
      exact q x H' ow' hx f1 g1 s1
end

section
variable {K : PySem.W.Frag} {σ : L2.St} {H : Hp}
theorem sqT_keep {H' : Hp} {a : Addr} {xs : List V} (h : SqT K H a xs) (e : Same H H') : SqT K H' a xs := h.elim (fun h => .inl (h.elim (fun h => .inl (e _ _ h)) fun ⟨o, h⟩ => .inr ⟨o, e _ _ h⟩)) fun h => .inr h
theorem walk_zipX {a b : Addr} {xs ys : List V} {n : Nat} (hn : n = min xs.length ys.length) : Walk (ItzX K a b) n (fun H => SqL K H a xs ∧ SqT K H b ys) (YPair (fun i => xs[i]?) (fun i => ys[i]?)) := by
  subst hn
  refine ⟨fun i H hi g => ?_, fun H g => ?_, fun i H v H' hi g y => ?_⟩
  · exact ⟨xs, ys, _, _, g.1, g.2, List.getElem?_eq_getElem (by omega), List.getElem?_eq_getElem (by omega)⟩
  · exact ⟨xs, ys, g.1, g.2, by omega⟩
  · obtain ⟨T, x, y, rfl, hT, rfl, f1, f2⟩ := y
    exact ⟨T, x, y, rfl, hT, rfl, f1 xs g.1, f2 ys g.2⟩
theorem rd_lcZpX {ta : TA} {g : TG} {tt : TT} {te : TE} {vs : List Nat} {Q : VK} (h : ta σ H fun vs1 H1 => ∃ a b xs ys, vs1 = [.ref a, .ref b] ∧ SqL K H1 a xs ∧ SqT K H1 b ys ∧ tLc (fun _ H' R => R (ItzX K a b) H') g tt te vs σ H1 Q) : tLc (iZipX K ta) g tt te vs σ H Q := h
theorem rd_lcZp {ta : TA} {g : TG} {tt : TT} {te : TE} {vs : List Nat} {Q : VK} (h : ta σ H fun vs1 H1 => ∃ a b xs ys, vs1 = [.ref a, .ref b] ∧ SqL K H1 a xs ∧ SqL K H1 b ys ∧ tLc (fun _ H' R => R (Itz K a b) H') g tt te vs σ H1 Q) : tLc (iZip K ta) g tt te vs σ H Q := h
theorem rd_lcY {a b : Addr} {xs ys : List Int} {m s1 s2 : Nat} {te : TE} {Q : VK} (f : Int → Int → Int) (hX : SqL K H a (xs.map V.int)) (hY : SqL K H b (ys.map V.int)) (hn : ys.length ≤ xs.length) (hn2 : ys.length ≤ 1000) (hm : m = 2)
    (hw : ∀ x y : V, L2.wipe (((L2.wipe σ [s1, s2]).set s1 (some x)).set s2 (some y)) [s1, s2] = L2.wipe σ [s1, s2])
    (he : ∀ (i : Nat) (x y : Int) (H' : Hp) (Q' : VK), xs[i]? = some x → ys[i]? = some y → Same H H' → Q' (.int (f x y)) H' → te (((L2.wipe σ [s1, s2]).set s1 (some (.int x))).set s2 (some (.int y))) H' Q')
    (q : ∀ (l : Addr) (zs : List Int) (H' : Hp), Same H H' → H l = none → H' l = some (.lst (zs.map V.int)) → zs.length = ys.length → (∀ (i : Nat) (x y : Int), xs[i]? = some x → ys[i]? = some y → zs[i]? = some (f x y)) → Q (.ref l) H') :
    tLc (fun _ H' R => R (Itz K a b) H') (gTup K m (gCons (gName s1) (gCons (gName s2) gNil))) tYes te [s1, s2] σ H Q := fun l hl => by
  subst hm
  refine lc_it (walk_zip (xs := xs.map V.int) (ys := ys.map V.int) (n := ys.length) (by rw [List.length_map, List.length_map]; omega)) (fun i H' => ∃ zs : List Int, Same H H' ∧ H' l = some (.lst (zs.map V.int)) ∧ zs.length = i ∧ ∀ j x y, j < i → xs[j]? = some x → ys[j]? = some y → zs[j]? = some (f x y)) ⟨[], Same.new hl, upd_same, rfl, fun j x y h => absurd h (Nat.not_lt_zero _)⟩ (fun i H' _ h => by obtain ⟨_, s, _⟩ := h; exact ⟨sqL_keep hX s, sqL_keep hY s⟩) (fun i v H1 H' hi h y => ?_) (fun H' h => ?_)
  · obtain ⟨zs, sm, hacc, hlen, hzs⟩ := h
    obtain ⟨p, x, z, rfl, hp, rfl, ex, ez⟩ := y
    have ex' : (xs.map V.int)[i]? = some x := ex
    have ez' : (ys.map V.int)[i]? = some z := ez
    have hix : i < xs.length := by omega
    rw [List.getElem?_map, List.getElem?_eq_getElem hix] at ex'
    rw [List.getElem?_map, List.getElem?_eq_getElem hi] at ez'
    cases ex'
    cases ez'
    have s2 : Same H1 (upd H1 p (.tup [V.int xs[i], .int ys[i]])) := Same.new hp
    refine ⟨p, _, rfl, SqT.of upd_same, rfl, _, _, rfl, _, _, rfl, rfl, hw _ _, ?_⟩
    dsimp only [tYes]
    rw [if_pos rfl]
    refine he i xs[i] ys[i] _ _ (List.getElem?_eq_getElem hix) (List.getElem?_eq_getElem hi) (sm.trans s2) ⟨zs.map V.int, s2 _ _ hacc, by rw [List.length_map, sizeLine_eq]; omega, zs ++ [f xs[i] ys[i]], fun c o z => ?_, ?_, by rw [List.length_append, List.length_singleton, hlen], fun j x y hj e e2 => ?_⟩
    · rw [upd_ne (ne_of_none z hl)]
      exact s2 _ _ (sm _ _ z)
    · rw [upd_same, List.map_append]
      rfl
    · rcases Nat.lt_succ_iff_lt_or_eq.mp hj with h | rfl
      · rw [List.getElem?_append_left (by omega)]
        exact hzs j x y h e e2
      · rw [List.getElem?_eq_getElem hix] at e
        rw [List.getElem?_eq_getElem hi] at e2
        cases e
        cases e2
        rw [List.getElem?_append_right (by omega), hlen, Nat.sub_self]
        rfl
  · obtain ⟨zs, sm, hacc, hlen, hzs⟩ := h
    exact q l zs H' sm hl hacc hlen fun i x y e e2 => hzs i x y (List.getElem?_eq_some_iff.mp e2).1 e e2
theorem rd_lcYX {a b : Addr} {xs ys : List Int} {m s1 s2 : Nat} {te : TE} {Q : VK} (f : Int → Int → Int) (hX : SqL K H a (xs.map V.int)) (hY : SqT K H b (ys.map V.int)) (hn : ys.length ≤ xs.length) (hn2 : ys.length ≤ 1000) (hm : m = 2)
    (hw : ∀ x y : V, L2.wipe (((L2.wipe σ [s1, s2]).set s1 (some x)).set s2 (some y)) [s1, s2] = L2.wipe σ [s1, s2])
    (he : ∀ (i : Nat) (x y : Int) (H' : Hp) (Q' : VK), xs[i]? = some x → ys[i]? = some y → Same H H' → Q' (.int (f x y)) H' → te (((L2.wipe σ [s1, s2]).set s1 (some (.int x))).set s2 (some (.int y))) H' Q')
    (q : ∀ (l : Addr) (zs : List Int) (H' : Hp), Same H H' → H l = none → H' l = some (.lst (zs.map V.int)) → zs.length = ys.length → (∀ (i : Nat) (x y : Int), xs[i]? = some x → ys[i]? = some y → zs[i]? = some (f x y)) → Q (.ref l) H') :
    tLc (fun _ H' R => R (ItzX K a b) H') (gTup K m (gCons (gName s1) (gCons (gName s2) gNil))) tYes te [s1, s2] σ H Q := fun l hl => by
  subst hm
  refine lc_it (walk_zipX (xs := xs.map V.int) (ys := ys.map V.int) (n := ys.length) (by rw [List.length_map, List.length_map]; omega)) (fun i H' => ∃ zs : List Int, Same H H' ∧ H' l = some (.lst (zs.map V.int)) ∧ zs.length = i ∧ ∀ j x y, j < i → xs[j]? = some x → ys[j]? = some y → zs[j]? = some (f x y)) ⟨[], Same.new hl, upd_same, rfl, fun j x y h => absurd h (Nat.not_lt_zero _)⟩ (fun i H' _ h => by obtain ⟨_, s, _⟩ := h; exact ⟨sqL_keep hX s, sqT_keep hY s⟩) (fun i v H1 H' hi h y => ?_) (fun H' h => ?_)
  · obtain ⟨zs, sm, hacc, hlen, hzs⟩ := h
    obtain ⟨p, x, z, rfl, hp, rfl, ex, ez⟩ := y
    have ex' : (xs.map V.int)[i]? = some x := ex
    have ez' : (ys.map V.int)[i]? = some z := ez
    have hix : i < xs.length := by omega
    rw [List.getElem?_map, List.getElem?_eq_getElem hix] at ex'
    rw [List.getElem?_map, List.getElem?_eq_getElem hi] at ez'
    cases ex'
    cases ez'
    have s2 : Same H1 (upd H1 p (.tup [V.int xs[i], .int ys[i]])) := Same.new hp
    refine ⟨p, _, rfl, SqT.of upd_same, rfl, _, _, rfl, _, _, rfl, rfl, hw _ _, ?_⟩
    dsimp only [tYes]
    rw [if_pos rfl]
    refine he i xs[i] ys[i] _ _ (List.getElem?_eq_getElem hix) (List.getElem?_eq_getElem hi) (sm.trans s2) ⟨zs.map V.int, s2 _ _ hacc, by rw [List.length_map, sizeLine_eq]; omega, zs ++ [f xs[i] ys[i]], fun c o z => ?_, ?_, by rw [List.length_append, List.length_singleton, hlen], fun j x y hj e e2 => ?_⟩
    · rw [upd_ne (ne_of_none z hl)]
      exact s2 _ _ (sm _ _ z)
    · rw [upd_same, List.map_append]
      rfl
    · rcases Nat.lt_succ_iff_lt_or_eq.mp hj with h | rfl
      · rw [List.getElem?_append_left (by omega)]
        exact hzs j x y h e e2
      · rw [List.getElem?_eq_getElem hix] at e
        rw [List.getElem?_eq_getElem hi] at e2
        cases e
        cases e2
        rw [List.getElem?_append_right (by omega), hlen, Nat.sub_self]
        rfl
  · obtain ⟨zs, sm, hacc, hlen, hzs⟩ := h
    exact q l zs H' sm hl hacc hlen fun i x y e e2 => hzs i x y (List.getElem?_eq_some_iff.mp e2).1 e e2
end

def spJoinL (K : PySem.W.Frag) : Sp := fun vs H Q _ => ∃ (a b : Addr) (xs ys : List Int), vs = [.ref a, .ref b] ∧ H a = some (.lst (xs.map V.int)) ∧ H b = some (.lst (ys.map V.int)) ∧ xs.length = ys.length ∧ 1 ≤ xs.length ∧ xs.length ≤ 1000 ∧
  ∀ (m : Int) (H' : Hp), Same H H' → LeastJ xs ys m → Q (.int m) H'

def spJoinT (K : PySem.W.Frag) : Sp := fun vs H Q _ => ∃ (a b : Addr) (xs ys : List Int), vs = [.ref a, .ref b] ∧ H a = some (.lst (xs.map V.int)) ∧ H b = some (.tup (ys.map V.int)) ∧ xs.length = ys.length ∧ 1 ≤ xs.length ∧ xs.length ≤ 1000 ∧
  ∀ (m : Int) (H' : Hp), Same H H' → LeastJ xs ys m → Q (.int m) H'

def spJoin (K : PySem.W.Frag) : Sp := fun vs H Q E => spJoinL K vs H Q E ∨ spJoinT K vs H Q E
section
variable {P : Program} {w : World} {K : PySem.W.Frag} {mg : Str → Option Value} {base : Heap}
theorem ok_join {f : Addr} {fd : FuncData} (F : Fun K "least_joined" "least_joined" s_least_joined f fd) (T : Blt mg) : FnOk P w K mg base CX0 1 f fd ["worths", "other_worths"] (spJoin K) := by
  refine F.ok sc_least_joined (fun vs H Q E h => ?_) (fun cdv A outer s H vs Q E hr h => ?_)
  · rcases h with h | h
    · obtain ⟨a, b, xs, ys, rfl, _⟩ := h
      rfl
    · obtain ⟨a, b, xs, ys, rfl, _⟩ := h
      rfl
  · rcases h with h | h
    · obtain ⟨a, b, xs, ys, rfl, ha, hb, hl, h1, h9, q⟩ := h
      refine ⟨_, (pss_one (ps_ret (pe_callB (cr_min rfl) (by rfl) T.n_min boot_min (pa_cons (pe_lc (own := [("worth", 2), ("other", 3)]) (g := gTup K 2 (gCons (gName 2) (gCons (gName 3) gNil))) (tt := tYes) rfl sc_least_joined.nd (pi_zip (by rfl) T.n_zip (pa_cons (pv 0) (pa_cons (pv 1) pa_nil))) (blkOk_by (N := ["worths", "other_worths", "worth", "other"]) (sc := defScope s_least_joined) (by decide +kernel)) (fun _ _ _ _ _ => pg_tup rfl (pgs_cons (pg_name (i := 2) sc_least_joined.nd rfl (Or.inl rfl)) (pgs_cons (pg_name (i := 3) sc_least_joined.nd rfl (Or.inl rfl)) pgs_nil))) (fun _ _ _ _ _ => pts_nil) (fun _ _ _ _ _ => (pe_op op_add (pv 2) (pv 3)))) pa_nil)))), ?_⟩
      wtm_at "ev_go"
      refine rd_lcZp ?_
      wtm_at "ev_go"
      refine ⟨a, b, _, _, rfl, SqL.of ha, SqL.of hb, ?_⟩
      refine rd_lcY (fun x y => x + y) (SqL.of ha) (SqL.of hb) (by omega) (by omega) rfl (fun x y => rfl) (fun i x y H' Q' ex ey sm fin => ?_) (fun l zs H' sm hl1 hl2 lz hz => ?_)
      · wtm_at "ev_go"
        exact fin
      · have ne : 0 < zs.length := by omega
        wtm_at "ev_go"
        refine ⟨l, zs, rfl, SqL.of hl2, ne, fun m hm hle => ?_⟩
        refine q m H' sm ⟨?_, fun i x y ex ey => hle _ (List.mem_of_getElem? (hz i x y ex ey))⟩
        obtain ⟨i, hi⟩ := List.getElem?_of_mem hm
        have il := (List.getElem?_eq_some_iff.mp hi).1
        have e1 := List.getElem?_eq_getElem (show i < xs.length by omega)
        have e2 := List.getElem?_eq_getElem (show i < ys.length by omega)
        have e3 := hz i _ _ e1 e2
        rw [hi] at e3
        cases e3
        exact ⟨i, _, _, e1, e2, rfl⟩
    · obtain ⟨a, b, xs, ys, rfl, ha, hb, hl, h1, h9, q⟩ := h
      refine ⟨_, (pss_one (ps_ret (pe_callB (cr_min rfl) (by rfl) T.n_min boot_min (pa_cons (pe_lc (own := [("worth", 2), ("other", 3)]) (g := gTup K 2 (gCons (gName 2) (gCons (gName 3) gNil))) (tt := tYes) rfl sc_least_joined.nd (pi_zipX (by rfl) T.n_zip (pa_cons (pv 0) (pa_cons (pv 1) pa_nil))) (blkOk_by (N := ["worths", "other_worths", "worth", "other"]) (sc := defScope s_least_joined) (by decide +kernel)) (fun _ _ _ _ _ => pg_tup rfl (pgs_cons (pg_name (i := 2) sc_least_joined.nd rfl (Or.inl rfl)) (pgs_cons (pg_name (i := 3) sc_least_joined.nd rfl (Or.inl rfl)) pgs_nil))) (fun _ _ _ _ _ => pts_nil) (fun _ _ _ _ _ => (pe_op op_add (pv 2) (pv 3)))) pa_nil)))), ?_⟩
      wtm_at "ev_go"
      refine rd_lcZpX ?_
      wtm_at "ev_go"
      refine ⟨a, b, _, _, rfl, SqL.of ha, SqT.of hb, ?_⟩
      refine rd_lcYX (fun x y => x + y) (SqL.of ha) (SqT.of hb) (by omega) (by omega) rfl (fun x y => rfl) (fun i x y H' Q' ex ey sm fin => ?_) (fun l zs H' sm hl1 hl2 lz hz => ?_)
      · wtm_at "ev_go"
        exact fin
      · have ne : 0 < zs.length := by omega
        wtm_at "ev_go"
        refine ⟨l, zs, rfl, SqL.of hl2, ne, fun m hm hle => ?_⟩
        refine q m H' sm ⟨?_, fun i x y ex ey => hle _ (List.mem_of_getElem? (hz i x y ex ey))⟩
        obtain ⟨i, hi⟩ := List.getElem?_of_mem hm
        have il := (List.getElem?_eq_some_iff.mp hi).1
        have e1 := List.getElem?_eq_getElem (show i < xs.length by omega)
        have e2 := List.getElem?_eq_getElem (show i < ys.length by omega)
        have e3 := hz i _ _ e1 e2
        rw [hi] at e3
        cases e3
        exact ⟨i, _, _, e1, e2, rfl⟩
end
end

section
theorem num_pl {i : Int} (h : i.natAbs ≤ 10 ^ 60) : Num i := Nat.lt_of_le_of_lt h (by decide +kernel)
/-- tuples of three numbers -/
def R3L (H : Hp) (L : List V) (ks : List R3) : Prop := L.length = ks.length ∧ ∀ (i : Nat) (v : V), L[i]? = some v → ∃ (a : Addr) (k : R3), v = .ref a ∧ ks[i]? = some k ∧ H a = some (.tup [.int k.1, .int k.2.1, .int k.2.2])
theorem R3L.keep {H H' : Hp} {L : List V} {ks : List R3} (h : R3L H L ks) (s : ∀ c xs, H c = some (.tup xs) → H' c = some (.tup xs)) : R3L H' L ks := ⟨h.1, fun i v e => by
  obtain ⟨a, k, h1, h2, h3⟩ := h.2 i v e
  exact ⟨a, k, h1, h2, s _ _ h3⟩⟩
theorem SumsAt.ob {cM cS m : Addr} {H : Hp} {ow : Addr → Prop} {us ds : List (Int × Int)} (h : SumsAt cM cS H m ow us ds) : ∃ dx fs, H m = some (.ins cM dx fs) ∧ ∀ k : Str, sumsField k = false → fs.lookup k = none := by
  obtain ⟨dx, u, d, fs, vt, ou, od, hm, how, dj, nu, nd, l1, l2, l3, l4, rest⟩ := h
  exact ⟨dx, fs, hm, l4⟩
def tiesField (m : Str) : Bool := m == ("_sums" : Str) || m == ("_ties" : Str) || m == ("_rows" : Str)
/-- few ties, none of them too far -/
def TB (ks : List R3) : Prop := ks.length ≤ 900 ∧ ∀ k ∈ ks, k.1.natAbs ≤ 10 ^ 40 ∧ k.2.1.natAbs ≤ 10 ^ 40
/-- at t: ties ks over the sums at m, with rows R; ow: what the sums own -/
structure TiesO (cT : Addr) (H : Hp) (t m : Addr) (ow : Addr → Prop) (dx lt lr : Addr) (fs : List (Str × V)) (L LR : List V) (ks : List R3) (R : List (List Int)) : Prop where
  ht : H t = some (.ins cT dx fs)
  f1 : fs.lookup ("_sums" : Str) = some (.ref m)
  f2 : fs.lookup ("_ties" : Str) = some (.ref lt)
  f3 : fs.lookup ("_rows" : Str) = some (.ref lr)
  f4 : ∀ k : Str, tiesField k = false → fs.lookup k = none
  hlt : H lt = some (.lst L)
  hL : R3L H L ks
  hlr : H lr = some (.lst LR)
  hR : RwL H LR R
  nt : ¬ ow t
  nlt : ¬ ow lt
  nlr : ¬ ow lr
  nr : ∀ a, V.ref a ∈ LR → ¬ ow a ∧ a ≠ lt
  nn : lr ≠ lt
  len : fs.length ≤ 3
/-- some objects hold the ties -/
def Ties (cT : Addr) (H : Hp) (t m : Addr) (ow : Addr → Prop) (ks : List R3) (R : List (List Int)) : Prop := ∃ dx lt lr fs L LR, TiesO cT H t m ow dx lt lr fs L LR ks R
section
variable {cT t m dx lt lr : Addr} {H H' : Hp} {ow ow' : Addr → Prop} {fs : List (Str × V)} {L LR : List V} {ks : List R3} {R : List (List Int)}
theorem TiesO.keep (h : TiesO cT H t m ow dx lt lr fs L LR ks R) (k : ∀ c o, H c = some o → (¬ ow c ∨ ∃ xs, o = .tup xs) → H' c = some o) (gw : ∀ c, ow' c → ow c ∨ H c = none) : TiesO cT H' t m ow' dx lt lr fs L LR ks R := by
  have no : ∀ c o, H c = some o → ¬ ow c → ¬ ow' c := fun c o e n z => by
    rcases gw c z with z | z
    · exact n z
    · rw [e] at z; cases z
  have row : ∀ a, V.ref a ∈ LR → ∃ r : List Int, H a = some (.lst (r.map V.int)) := fun a ma => by
    obtain ⟨i, hi⟩ := List.getElem?_of_mem ma
    obtain ⟨b, r, e, _, e2⟩ := h.hR.2 i _ hi
    cases e
    exact ⟨r, e2⟩
  exact ⟨k _ _ h.ht (.inl h.nt), h.f1, h.f2, h.f3, h.f4, k _ _ h.hlt (.inl h.nlt), h.hL.keep fun c xs e => k c _ e (.inr ⟨_, rfl⟩), k _ _ h.hlr (.inl h.nlr), ⟨h.hR.1, fun i v e => by
      obtain ⟨a, r, h1, h2, h3⟩ := h.hR.2 i v e
      exact ⟨a, r, h1, h2, k _ _ h3 (.inl (h.nr a (by rw [← h1]; exact List.mem_of_getElem? e)).1)⟩⟩, no _ _ h.ht h.nt, no _ _ h.hlt h.nlt, no _ _ h.hlr h.nlr, fun a ma => by
      obtain ⟨r, e⟩ := row a ma
      exact ⟨no _ _ e (h.nr a ma).1, (h.nr a ma).2⟩, h.nn, h.len⟩
theorem TiesO.fro (h : TiesO cT H t m ow dx lt lr fs L LR ks R) (fo : FrO ow H H') (gw : ∀ c, ow' c → ow c ∨ H c = none) : TiesO cT H' t m ow' dx lt lr fs L LR ks R := h.keep fo.1 gw
theorem TiesO.same (h : TiesO cT H t m ow dx lt lr fs L LR ks R) (s : Same H H') : TiesO cT H' t m ow dx lt lr fs L LR ks R := h.keep (fun c o e _ => s _ _ e) fun c w => .inl w
end
/-- the sums are asked on the way; two lists of one's own grow -/
structure TyW (cM cS : Addr) (H : Hp) (ow : Addr → Prop) (m : Addr) (us ds : List (Int × Int)) (la lb : Addr) (A B : List Int) (H' : Hp) (ow' : Addr → Prop) : Prop where
  fo : FrO ow H H'
  gw : ∀ c, ow' c → ow c ∨ H c = none
  sa : SumsAt cM cS H' m ow' us ds
  a : H' la = some (.lst (A.map V.int))
  b : H' lb = some (.lst (B.map V.int))
  na : ¬ ow' la
  nb : ¬ ow' lb
  ne : la ≠ lb
  a0 : H la = none
  b0 : H lb = none
section
variable {cM cS m la lb : Addr} {H H' H2 : Hp} {ow ow' ow2 : Addr → Prop} {us ds : List (Int × Int)} {A B : List Int} {x : Int}
theorem TyW.step (h : TyW cM cS H ow m us ds la lb A B H' ow') (fo : FrO ow' H' H2) (gw : ∀ c, ow2 c → ow' c ∨ H' c = none) (sa : SumsAt cM cS H2 m ow2 us ds) : TyW cM cS H ow m us ds la lb A B H2 ow2 := by
  have no : ∀ c o, H' c = some o → ¬ ow' c → ¬ ow2 c := fun c o e n z => by
    rcases gw c z with z | z
    · exact n z
    · rw [e] at z; cases z
  refine ⟨h.fo.trans fo h.gw, fun c w => ?_, sa, fo.1 _ _ h.a (.inl h.na), fo.1 _ _ h.b (.inl h.nb), no _ _ h.a h.na, no _ _ h.b h.nb, h.ne, h.a0, h.b0⟩
  rcases gw c w with w | w
  · exact h.gw c w
  · cases e : H c with
    | none => exact .inr rfl
    | some o => exact absurd w (h.fo.2 c (by rw [e]; intro z; cases z))
theorem TyW.same (h : TyW cM cS H ow m us ds la lb A B H' ow') (s : Same H' H2) : TyW cM cS H ow m us ds la lb A B H2 ow' := h.step (.of s) (fun c w => .inl w) (h.sa.keep fun c o e _ => s _ _ e)
theorem TyW.adda (h : TyW cM cS H ow m us ds la lb A B H' ow') : TyW cM cS H ow m us ds la lb (A ++ [x]) B (upd H' la (.lst (A.map V.int ++ [.int x]))) ow' :=
  ⟨h.fo.put (.inr h.a0) (fun xs z => by rw [h.a] at z; cases z), h.gw, h.sa.keep (fun c o e w => lk_ne (by
    intro z
    subst z
    rcases w with w | ⟨xs, rfl⟩
    · exact h.na w
    · rw [h.a] at e; cases e) e), (by rw [upd_same, List.map_append]; rfl), lk_ne (fun z => h.ne z.symm) h.b, h.na, h.nb, h.ne, h.a0, h.b0⟩
theorem TyW.addb (h : TyW cM cS H ow m us ds la lb A B H' ow') : TyW cM cS H ow m us ds la lb A (B ++ [x]) (upd H' lb (.lst (B.map V.int ++ [.int x]))) ow' :=
  ⟨h.fo.put (.inr h.b0) (fun xs z => by rw [h.b] at z; cases z), h.gw, h.sa.keep (fun c o e w => lk_ne (by
    intro z
    subst z
    rcases w with w | ⟨xs, rfl⟩
    · exact h.nb w
    · rw [h.b] at e; cases e) e), lk_ne h.ne h.a, (by rw [upd_same, List.map_append]; rfl), h.na, h.nb, h.ne, h.a0, h.b0⟩
end
structure TxY (K : PySem.W.Frag) (mg : Str → Option Value) (cT fT : Addr) : Prop where
  cls : Cls K cT
  n1 : NoAttr K cT "_sums"
  n2 : NoAttr K cT "_ties"
  n3 : NoAttr K cT "_rows"
  mkT : Mk K cT fT
  gT : mg "Ties" = some (.ref cT)
def spTI (cT : Addr) : Sp := fun vs H Q _ => ∃ (a dx m : Addr), vs = [.ref a, .ref m] ∧ H a = some (.ins cT dx []) ∧
  ∀ (H' : Hp) (lt lr : Addr), H lt = none → H lr = none → lt ≠ lr → H' lt = some (.lst []) → H' lr = some (.lst []) → H' a = some (.ins cT dx (putF "_rows" (.ref lr) (putF "_ties" (.ref lt) (putF "_sums" (.ref m) [])))) → Fr a H H' → Q .non H'
/-- the ways from a place to the ties, and from them to it by days alone -/
def spWays (cT cM cS : Addr) : Sp := fun vs H Q _ => ∃ (t m dx lt lr : Addr) (x : Int) (ow : Addr → Prop) (fs : List (Str × V)) (L LR : List V) (us ds : List (Int × Int)) (ks : List R3) (R : List (List Int)), vs = [.ref t, .int x] ∧ x.natAbs ≤ 10 ^ 41 ∧ TB ks ∧
  TiesO cT H t m ow dx lt lr fs L LR ks R ∧ SumsAt cM cS H m ow us ds ∧ MatOk us ds ks R ∧
  ∀ (p la lb : Addr) (A B : List Int) (H' : Hp) (ow' : Addr → Prop), TyW cM cS H ow m us ds la lb A B H' ow' → H p = none → H' p = some (.tup [.ref la, .ref lb]) → Each ks (fun k c => LW us ds ks x k.1 c) A → Each ks (fun k c => OutL us ds k x c) B → Q (.ref p) H'
/-- the least and the greatest height of y over x -/
def spHeights (cT cM cS : Addr) : Sp := fun vs H Q _ => ∃ (t m dx lt lr p q a1 b1 a2 b2 : Addr) (x y n : Int) (ow : Addr → Prop) (fs : List (Str × V)) (L LR : List V) (us ds : List (Int × Int)) (ks : List R3) (R : List (List Int)) (A1 B1 A2 B2 : List Int), vs = [.ref t, .int n, .ref p, .ref q] ∧ n = y - x ∧ x.natAbs ≤ 10 ^ 41 ∧ y.natAbs ≤ 10 ^ 41 ∧ ks.length ≤ 900 ∧
  TiesO cT H t m ow dx lt lr fs L LR ks R ∧ SumsAt cM cS H m ow us ds ∧ H p = some (.tup [.ref a1, .ref b1]) ∧ H q = some (.tup [.ref a2, .ref b2]) ∧ H a1 = some (.lst (A1.map V.int)) ∧ H b1 = some (.lst (B1.map V.int)) ∧ H a2 = some (.lst (A2.map V.int)) ∧ H b2 = some (.lst (B2.map V.int)) ∧ ¬ ow a1 ∧ ¬ ow b1 ∧ ¬ ow a2 ∧ ¬ ow b2 ∧
  Each ks (fun k c => LW us ds ks x k.1 c) A1 ∧ Each ks (fun k c => OutL us ds k x c) B1 ∧ Each ks (fun k c => LW us ds ks y k.1 c) A2 ∧ Each ks (fun k c => OutL us ds k y c) B2 ∧
  ∀ (T : Addr) (c d : Int) (H' : Hp) (ow' : Addr → Prop), FrO ow H H' → (∀ c, ow' c → ow c ∨ H c = none) → SumsAt cM cS H' m ow' us ds → H T = none → H' T = some (.tup [.int (-d), .int c]) → LW us ds ks x y c → LW us ds ks y x d → Q (.ref T) H'
section
variable {P : Program} {w : World} {K : PySem.W.Frag} {mg : Str → Option Value} {base : Heap} {cT fT cM cS fS fM fG fRi : Addr} {fdRi : FuncData}
theorem ok_tinit {f : Addr} {fd : FuncData} (F : Fun K "__init__" "Ties.__init__" s_Ties_init f fd) (Y : TxY K mg cT fT) : FnOk P w K mg base CX0 1 f fd ["self", "sums"] (spTI cT) := by
  refine F.ok sc_Ties_init (fun vs H Q E h => ?_) (fun cdv A outer s H vs Q E hr h => ?_)
  · obtain ⟨a, dx, m, rfl, _⟩ := h
    rfl
  · obtain ⟨a, dx, m, rfl, ha, q⟩ := h
    refine ⟨_, (pss_cons (ps_fld (pv 0) (pv 1) rfl)
      (pss_cons (ps_fld (pv 0) (pe_lst pa_nil) rfl)
      (pss_one (ps_fld (pv 0) (pe_lst pa_nil) rfl)))), ?_⟩
    wtm_at "ev_go"
    refine rd_sfldA ha Y.cls Y.n1 (by decide) ?_
    wtm_at "ev_go"
    intro lt hlt
    have nt : a ≠ lt := fun z => by subst z; rw [upd_same] at hlt; cases hlt
    rw [upd_ne (Ne.symm nt)] at hlt
    wtm_at "ev_go"
    refine rd_sfldA (lk_ne nt upd_same) Y.cls Y.n2 (Nat.lt_of_le_of_lt (len_put _) (by decide)) ?_
    wtm_at "ev_go"
    intro lr hlr
    have nr : a ≠ lr := fun z => by subst z; rw [upd_same] at hlr; cases hlr
    rw [upd_ne (Ne.symm nr)] at hlr
    have nn : lt ≠ lr := fun z => by subst z; rw [upd_same] at hlr; cases hlr
    rw [upd_ne (Ne.symm nn), upd_ne (Ne.symm nr)] at hlr
    wtm_at "ev_go"
    refine rd_sfldA (lk_ne nr upd_same) Y.cls Y.n3 (Nat.lt_of_le_of_lt (len_put' (len_put' len_nil)) (by decide)) ?_
    wtm_at "ev_go"
    refine q _ lt lr hlt hlr nn (lk_ne (Ne.symm nt) (lk_ne nn (lk_ne (Ne.symm nt) upd_same))) (lk_ne (Ne.symm nr) upd_same) upd_same ?_
    intro c o e n
    exact lk_ne n (lk_ne (fun z => by subst z; rw [hlr] at e; cases e) (lk_ne n (lk_ne (fun z => by subst z; rw [hlt] at e; cases e) (lk_ne n e))))
theorem ok_ways {f : Addr} {fd : FuncData} (F : Fun K "_ways" "Ties._ways" s_Ties_ways f fd) (T : Blt mg) (U : TxU K mg cM cS fS fM fG) (Y : TxY K mg cT fT) (mRi : Meth K cM "rise" fRi) (GRI : FnOk P w K mg base CX0 4 fRi fdRi ["self", "days"] (spRise cM cS)) (bRi : Binds K fdRi ["self", "days"] []) (GJ : CalN P w K mg base 1 "least_joined" (spJoin K)) : FnOk P w K mg base CX0 5 f fd ["self", "place"] (spWays cT cM cS) := by
  refine F.ok sc_Ties_ways (fun vs H Q E h => ?_) (fun cdv A outer s H vs Q E hr h => ?_)
  · obtain ⟨t, m, dx, lt, lr, x, ow, fs, L, LR, us, ds, ks, R, rfl, _⟩ := h
    rfl
  · obtain ⟨t, m, dx, lt, lr, x, ow, fs, L, LR, us, ds, ks, R, rfl, hx, hb, ho, sa, mo, q⟩ := h
    refine ⟨_, (pss_cons (ps_set (i := 2) sc_Ties_ways.nd rfl (Or.inl rfl) (pe_fld (pv 0) rfl))
      (pss_cons (ps_asg (pe_tup (pa_cons (pe_lst pa_nil) (pa_cons (pe_lst pa_nil) pa_nil))) (pg_tup rfl (pgs_cons (pg_name (i := 3) sc_Ties_ways.nd rfl (Or.inr rfl)) (pgs_cons (pg_name (i := 4) sc_Ties_ways.nd rfl (Or.inl rfl)) pgs_nil))))
      (pss_cons (ps_for PassesOwn.never rfl (pi_list (pe_fld (pv 0) rfl)) (pg_tup rfl (pgs_cons (pg_name (i := 5) sc_Ties_ways.nd rfl (Or.inl rfl)) (pgs_cons (pg_name (i := 6) sc_Ties_ways.nd rfl (Or.inl rfl)) (pgs_cons (pg_name (i := 7) sc_Ties_ways.nd rfl (Or.inl rfl)) pgs_nil)))) 
        (pss_cons (ps_expr (pe_bm PySem.F.plainAttrs_list PySem.F.slot_list_append PySem.F.type_list_append mt_append (pv 3) (pa_cons (pe_callB (call_min2 rfl) (by rfl) T.n_min boot_min (pa_cons (pe_meth (pv 2) U.cls mRi GRI (hr.mono (by decide)) bRi .nil pass0 (pa_cons (pe_op op_sub (pv 5) (pv 1)) pa_nil)) (pa_cons (pe_op op_sub (pe_meth (pv 2) U.cls mRi GRI (hr.mono (by decide)) bRi .nil pass0 (pa_cons (pe_op op_sub (pv 6) (pv 1)) pa_nil)) (pv 7)) pa_nil))) pa_nil)))
        (pss_one (ps_expr (pe_bm PySem.F.plainAttrs_list PySem.F.slot_list_append PySem.F.type_list_append mt_append (pv 4) (pa_cons (pe_callB (call_min2 rfl) (by rfl) T.n_min boot_min (pa_cons (pe_meth (pv 2) U.cls mRi GRI (hr.mono (by decide)) bRi .nil pass0 (pa_cons (pe_op op_sub (pv 1) (pv 5)) pa_nil)) (pa_cons (pe_op op_add (pe_meth (pv 2) U.cls mRi GRI (hr.mono (by decide)) bRi .nil pass0 (pa_cons (pe_op op_sub (pv 1) (pv 6)) pa_nil)) (pv 7)) pa_nil))) pa_nil))))))
      (pss_one (ps_ret (pe_tup (pa_cons (pe_lc (own := [("column", 8)]) (g := gName 8) (tt := tYes) rfl sc_Ties_ways.nd (pi_zipE (by rfl) T.n_zip (pe_fld (pv 0) rfl)) (blkOk_by (N := ["self", "place", "sums", "leaving", "coming", "first", "last", "total", "column"]) (sc := defScope s_Ties_ways) (by decide +kernel)) (fun _ _ _ _ _ => pg_name (i := 8) sc_Ties_ways.nd rfl (Or.inl rfl)) (fun _ _ _ _ _ => pts_nil) (fun _ _ _ _ _ => (pe_cN GJ hr (by decide) (by rfl) (pa_cons (pv 3) (pa_cons (pv 8) pa_nil))))) (pa_cons (pv 4) pa_nil)))))))), ?_⟩
    wtm_at "ev_go"
    refine rd_fldA ho.ht Y.cls Y.n1 ho.f1 ?_
    wtm_at "ev_go"
    intro la hla
    wtm_at "ev_go"
    intro lb hlb
    wtm_at "ev_go"
    have nab : la ≠ lb := fun z => by subst z; rw [upd_same] at hlb; cases hlb
    rw [upd_ne (Ne.symm nab)] at hlb
    intro p0 hp0
    have nap : la ≠ p0 := fun z => by subst z; rw [upd_ne nab, upd_same] at hp0; cases hp0
    have nbp : lb ≠ p0 := fun z => by subst z; rw [upd_same] at hp0; cases hp0
    rw [upd_ne (Ne.symm nbp), upd_ne (Ne.symm nap)] at hp0
    refine rd_gtup (SqT.of upd_same) rfl ?_
    wtm_at "ev_go"
    have s0 : Same H (upd (upd (upd H la (.lst [])) lb (.lst [])) p0 (.tup [.ref la, .ref lb])) := ((Same.new hla).trans (Same.new (by rw [upd_ne (Ne.symm nab)]; exact hlb))).trans (Same.new (by rw [upd_ne (Ne.symm nbp), upd_ne (Ne.symm nap)]; exact hp0))
    have w0 : TyW cM cS H ow m us ds la lb [] [] (upd (upd (upd H la (.lst [])) lb (.lst [])) p0 (.tup [.ref la, .ref lb])) ow :=
      ⟨.of s0, fun c w => .inl w, sa.keep fun c o e _ => s0 _ _ e, lk_ne nap (lk_ne nab upd_same), lk_ne nbp upd_same, fun z => sa.alive _ z hla, fun z => sa.alive _ z hlb, nab, hla, hlb⟩
    have hoO : ∀ {H' ow' A B}, TyW cM cS H ow m us ds la lb A B H' ow' → TiesO cT H' t m ow' dx lt lr fs L LR ks R := fun w => ho.fro w.fo w.gw
    generalize upd (upd (upd H la (.lst [])) lb (.lst [])) p0 (.tup [.ref la, .ref lb]) = H0 at w0
    wtm_at "ev_go"
    refine rd_fldA (hoO w0).ht Y.cls Y.n2 ho.f2 ?_
    refine rd_atL (SqL.of (hoO w0).hlt) ?_
    refine rd_forL (xs := L) (fun i σ' H' => ∃ (x5 x6 x7 : Option V) (A B : List Int) (ow' : Addr → Prop), σ' = [some (.ref t), some (.int x), some (.ref m), some (.ref la), some (.ref lb), x5, x6, x7, none] ∧ TyW cM cS H ow m us ds la lb A B H' ow' ∧ Each (ks.take i) (InL us ds x) A ∧ Each (ks.take i) (fun k c => OutL us ds k x c) B)
      ⟨none, none, none, [], [], ow, rfl, w0, ⟨rfl, fun i k c e => by cases e⟩, ⟨rfl, fun i k c e => by cases e⟩⟩ ?_ ?_ ?_
    · rintro i σ' H' _ ⟨x5, x6, x7, A, B, ow', rfl, w, _⟩
      exact SqL.of (hoO w).hlt
    · rintro i v σ' H' hv ⟨x5, x6, x7, A, B, ow', rfl, w, eA, eB⟩
      obtain ⟨a, k, rfl, ek, ha⟩ := (hoO w).hL.2 i v hv
      have kb := hb.2 k (List.mem_of_getElem? ek)
      have il := (List.getElem?_eq_some_iff.mp ek).1
      have hl9 := hb.1
      have la9 : A.length ≤ 900 := by rw [eA.1, List.length_take]; omega
      have lb9 : B.length ≤ 900 := by rw [eB.1, List.length_take]; omega
      refine rd_gtup (SqT.of ha) rfl ?_
      wtm_at "ev_go"
      refine rd_tyL (SqL.of w.a) ?_
      wtm_at "ev_go"
      obtain ⟨dx1, fs1, hm1, lm1⟩ := w.sa.ob
      refine ⟨m, dx1, fs1, rfl, hm1, lm1 _ (by decide +kernel), ?_⟩
      wtm_at "ev_go"
      refine ⟨m, k.1 - x, ow', us, ds, rfl, num_pl (by omega), w.sa, fun c1 H1 o1 h1 fo1 gw1 sa1 => ?_⟩
      have w1 := w.step fo1 gw1 sa1
      wtm_at "ev_go"
      obtain ⟨dx1, fs1, hm1, lm1⟩ := sa1.ob
      refine ⟨m, dx1, fs1, rfl, hm1, lm1 _ (by decide +kernel), ?_⟩
      wtm_at "ev_go"
      refine ⟨m, k.2.1 - x, o1, us, ds, rfl, num_pl (by omega), sa1, fun c2 H2 o2 h2 fo2 gw2 sa2 => ?_⟩
      have w2 := w1.step fo2 gw2 sa2
      wtm_at "ev_go"
      refine rd_append w2.a (by rw [List.length_map]; omega) ?_
      have w3 := w2.adda (x := if c2 - k.2.2 < c1 then c2 - k.2.2 else c1)
      have eA2 := eA.snoc ek (InL.of h1 h2 (minOf c1 (c2 - k.2.2)))
      generalize upd H2 la (.lst (A.map V.int ++ [.int (if c2 - k.2.2 < c1 then c2 - k.2.2 else c1)])) = H3 at w3
      wtm_at "ev_go"
      refine rd_tyL (SqL.of w3.b) ?_
      wtm_at "ev_go"
      obtain ⟨dx1, fs1, hm1, lm1⟩ := w3.sa.ob
      refine ⟨m, dx1, fs1, rfl, hm1, lm1 _ (by decide +kernel), ?_⟩
      wtm_at "ev_go"
      refine ⟨m, x - k.1, o2, us, ds, rfl, num_pl (by omega), w3.sa, fun d1 H4 o4 g1 fo4 gw4 sa4 => ?_⟩
      have w4 := w3.step fo4 gw4 sa4
      wtm_at "ev_go"
      obtain ⟨dx1, fs1, hm1, lm1⟩ := sa4.ob
      refine ⟨m, dx1, fs1, rfl, hm1, lm1 _ (by decide +kernel), ?_⟩
      wtm_at "ev_go"
      refine ⟨m, x - k.2.1, o4, us, ds, rfl, num_pl (by omega), sa4, fun d2 H5 o5 g2 fo5 gw5 sa5 => ?_⟩
      have w5 := w4.step fo5 gw5 sa5
      wtm_at "ev_go"
      refine rd_append w5.b (by rw [List.length_map]; omega) ?_
      exact ⟨_, _, _, _, _, o5, rfl, w5.addb (x := if d2 + k.2.2 < d1 then d2 + k.2.2 else d1), eA2, eB.snoc ek (OutL.of g1 g2 (minOf d1 (d2 + k.2.2)))⟩
    · rintro σ' H' ⟨x5, x6, x7, A, B, ow', rfl, w, eA, eB⟩
      rw [show L.length = ks.length from ho.hL.1, List.take_length] at eA eB
      have hl9 := hb.1
      have hoF := hoO w
      wtm_at "ev_go"
      refine rd_lcZE ?_
      wtm_at "ev_go"
      refine rd_fldA hoF.ht Y.cls Y.n3 ho.f3 ?_
      obtain ⟨ls, eLR, lls, hls⟩ := hoF.hR.refs
      have nl : ls.length = ks.length := by rw [lls, mo.n]
      -- what is left: the list made of the columns
      have fin : ∀ (l : Addr) (ys : List Int) (H2 : Hp), Same H' H2 → H' l = none → H2 l = some (.lst (ys.map V.int)) → Each ks (fun k c => LW us ds ks x k.1 c) ys → ∀ p : Addr, H2 p = none → Q (.ref p) (upd H2 p (.tup [.ref l, .ref lb])) := fun l ys H2 s2 hl hl2 e p hp => by
        have w2 := w.same s2
        have nlb : l ≠ lb := fun z => by subst z; rw [w.b] at hl; cases hl
        have npl : l ≠ p := fun z => by subst z; rw [hl2] at hp; cases hp
        have npb : lb ≠ p := fun z => by subst z; rw [w2.b] at hp; cases hp
        have dead : ∀ c, H' c = none → H c = none := fun c z => by
          cases e : H c with
          | none => rfl
          | some o => exact absurd z (w.fo.2 c (by rw [e]; intro z; cases z))
        have dead2 : ∀ c, H2 c = none → H c = none := fun c z => by
          cases e : H c with
          | none => rfl
          | some o => exact absurd z (w2.fo.2 c (by rw [e]; intro z; cases z))
        have s3 : Same H2 (upd H2 p (.tup [.ref l, .ref lb])) := Same.new hp
        exact q p l lb ys B _ ow' ⟨w2.fo.trans (.of s3) fun c w => .inl w, w.gw, w2.sa.keep fun c o e _ => s3 _ _ e, lk_ne npl hl2, lk_ne npb w2.b, fun z => w.sa.alive _ z hl, w.nb, nlb, dead _ hl, w.b0⟩ (dead2 _ hp) upd_same e eB
      refine ⟨lr, ls, rfl, .inr (SqL.of (by rw [← eLR]; exact hoF.hlr)), by rw [sizeLine_eq, nl]; omega, fun l ml => ?_, fun e0 => ?_, fun ne => ?_⟩
      · obtain ⟨k, hk⟩ := List.getElem?_of_mem ml
        have kl := (List.getElem?_eq_some_iff.mp hk).1
        exact ⟨_, SqL.of (hls k l _ hk (List.getElem?_eq_getElem (by omega)))⟩
      · refine rd_lcZ0E fun l H2 s2 hl hl2 => ?_
        have k0 : ks = [] := List.eq_nil_of_length_eq_zero (by rw [← nl, e0]; rfl)
        wtm_at "ev_go"
        exact fin l [] H2 s2 hl hl2 ⟨by rw [k0]; rfl, fun i k c e => by rw [k0] at e; cases e⟩
      · have R0 : R ≠ [] := fun z => ne (List.eq_nil_of_length_eq_zero (by rw [lls, z]; rfl))
        refine rd_lcZS (n := ks.length) (fun i v => ∀ k, ks[i]? = some k → LW us ds ks x k.1 v) R0 lls (fun i l r e1 e2 => ⟨hls i l r e1 e2, ?_⟩) (by omega) (fun v => rfl) (fun i T us' H2 Q' hi s2 hT lu hu fin2 => ?_) (fun l ys H2 s2 hl hl2 ly hy => ?_)
        · obtain ⟨k, ek⟩ : ∃ k, ks[i]? = some k := ⟨_, List.getElem?_eq_getElem (by have := (List.getElem?_eq_some_iff.mp e2).1; rw [mo.n] at this; exact this)⟩
          exact (mo.r i k r ek e2).1
        · have w2 := w.same s2
          wtm_at "ev_go"
          refine .inr ⟨la, T, A, us', rfl, w2.a, hT, by rw [eA.1, lu, mo.n], by rw [eA.1]; omega, by rw [eA.1]; omega, fun v H3 s3 lj => ?_⟩
          exact fin2 v H3 s3 fun k ek => lw_col mo eA hu ek lj
        · wtm_at "ev_go"
          exact fin l ys H2 s2 hl hl2 ⟨ly, fun i k c e1 e2 => hy i c e2 k e1⟩
theorem ok_heights {f : Addr} {fd : FuncData} (F : Fun K "_heights" "Ties._heights" s_Ties_heights f fd) (T : Blt mg) (U : TxU K mg cM cS fS fM fG) (Y : TxY K mg cT fT) (mRi : Meth K cM "rise" fRi) (GRI : FnOk P w K mg base CX0 4 fRi fdRi ["self", "days"] (spRise cM cS)) (bRi : Binds K fdRi ["self", "days"] []) (GJ : CalN P w K mg base 1 "least_joined" (spJoin K)) : FnOk P w K mg base CX0 5 f fd ["self", "days", "ways", "last_ways"] (spHeights cT cM cS) := by
  refine F.ok sc_Ties_heights (fun vs H Q E h => ?_) (fun cdv A outer s H vs Q E hr h => ?_)
  · obtain ⟨t, m, dx, lt, lr, p, q, a1, b1, a2, b2, x, y, n, ow, fs, L, LR, us, ds, ks, R, A1, B1, A2, B2, rfl, _⟩ := h
    rfl
  · obtain ⟨t, m, dx, lt, lr, p, q, a1, b1, a2, b2, x, y, n, ow, fs, L, LR, us, ds, ks, R, A1, B1, A2, B2, rfl, rfl, hx, hy, hb, ho, sa, hp, hq, ha1, hb1, ha2, hb2, na1, nb1, na2, nb2, eA1, eB1, eA2, eB2, Q0⟩ := h
    refine ⟨_, (pss_cons (ps_par (i := 4) (j := 5) (by rfl) sc_Ties_heights.nd rfl rfl (by decide) rfl rfl (pa_cons (pe_un un_neg (pe_meth (pe_fld (pv 0) rfl) U.cls mRi GRI (hr.mono (by decide)) bRi .nil pass0 (pa_cons (pe_un un_neg (pv 1)) pa_nil))) (pa_cons (pe_meth (pe_fld (pv 0) rfl) U.cls mRi GRI (hr.mono (by decide)) bRi .nil pass0 (pa_cons (pv 1) pa_nil)) pa_nil)) (by rfl))
      (pss_cons (ps_if (pt_lst (pe_fld (pv 0) rfl) (by intro _; rfl)) 
        (pss_cons (ps_set (i := 4) sc_Ties_heights.nd rfl (Or.inl rfl) (pe_callB (call_max2 rfl) (by rfl) T.n_max boot_max (pa_cons (pv 4) (pa_cons (pe_un un_neg (pe_cN GJ hr (by decide) (by rfl) (pa_cons (pe_ix ix_tup (pv 3) pe_int (fun _ _ => rfl)) (pa_cons (pe_ix ix_tup (pv 2) pe_int (fun _ _ => rfl)) pa_nil)))) pa_nil))))
        (pss_one (ps_set (i := 5) sc_Ties_heights.nd rfl (Or.inl rfl) (pe_callB (call_min2 rfl) (by rfl) T.n_min boot_min (pa_cons (pv 5) (pa_cons (pe_cN GJ hr (by decide) (by rfl) (pa_cons (pe_ix ix_tup (pv 2) pe_int (fun _ _ => rfl)) (pa_cons (pe_ix ix_tup (pv 3) pe_int (fun _ _ => rfl)) pa_nil))) pa_nil)))))) pss_nil)
      (pss_one (ps_ret (pe_tup (pa_cons (pv 4) (pa_cons (pv 5) pa_nil))))))), ?_⟩
    wtm_at "ev_go"
    refine rd_fldA ho.ht Y.cls Y.n1 ho.f1 ?_
    obtain ⟨dx1, fs1, hm1, lm1⟩ := sa.ob
    refine ⟨m, dx1, fs1, rfl, hm1, lm1 _ (by decide +kernel), ?_⟩
    wtm_at "ev_go"
    refine ⟨m, -(y - x), ow, us, ds, rfl, num_pl (by omega), sa, fun c1 H1 o1 h1 fo1 gw1 sa1 => ?_⟩
    have ho1 := ho.fro fo1 gw1
    wtm_at "ev_go"
    refine rd_fldA ho1.ht Y.cls Y.n1 ho.f1 ?_
    obtain ⟨dx2, fs2, hm2, lm2⟩ := sa1.ob
    refine ⟨m, dx2, fs2, rfl, hm2, lm2 _ (by decide +kernel), ?_⟩
    wtm_at "ev_go"
    refine ⟨m, y - x, o1, us, ds, rfl, num_pl (by omega), sa1, fun c2 H2 o2 h2 fo2 gw2 sa2 => ?_⟩
    have ho2 := ho1.fro fo2 gw2
    have fo := fo1.trans fo2 gw1
    have gw : ∀ c, o2 c → ow c ∨ H c = none := fun c w => by
      rcases gw2 c w with w | w
      · exact gw1 c w
      · cases e : H c with
        | none => exact .inr rfl
        | some o => exact absurd w (fo1.2 c (by rw [e]; intro z; cases z))
    have dead : ∀ c, H2 c = none → H c = none := fun c z => by
      cases e : H c with
      | none => rfl
      | some o => exact absurd z (fo.2 c (by rw [e]; intro z; cases z))
    rw [show -(y - x) = x - y by omega] at h1
    -- the two heights are told
    have fin : ∀ (T : Addr) (c d e : Int) (H3 : Hp), Same H2 H3 → H3 T = none → e = -d → LW us ds ks x y c → LW us ds ks y x d → Q (.ref T) (upd H3 T (.tup [.int e, .int c])) := fun T c d e H3 s3 hT ee l1 l2 => by
      have s4 := s3.trans (Same.new (o := .tup [.int e, .int c]) hT)
      refine Q0 T c d _ o2 (fo.trans (.of s4) fun c w => .inl w) gw (sa2.keep fun c o e _ => s4 _ _ e) (dead _ ?_) (by rw [upd_same, ee]) l1 l2
      cases e2 : H2 T with
      | none => rfl
      | some o => rw [s3 _ _ e2] at hT; cases hT
    wtm_at "ev_go"
    refine rd_truL ?_
    wtm_at "ev_go"
    refine rd_fldA ho2.ht Y.cls Y.n2 ho.f2 ?_
    refine ⟨lt, L, rfl, ho2.hlt, ?_⟩
    by_cases c0 : L = []
    · have k0 : ks = [] := List.eq_nil_of_length_eq_zero (by rw [← ho.hL.1, c0]; rfl)
      rw [c0]
      rw [if_neg (by simp)]
      wtm_at "ev_go"
      intro T hT
      exact fin T c2 c1 _ H2 (Same.refl _) hT rfl (by rw [k0]; exact .nil h2) (by rw [k0]; exact .nil h1)
    · have k1 : 1 ≤ ks.length := by
        rw [← ho.hL.1]
        cases L with
        | nil => exact absurd rfl c0
        | cons => simp
      rw [if_pos (by cases L with | nil => exact absurd rfl c0 | cons => rfl)]
      have hp2 := fo.1 _ _ hp (.inr ⟨_, rfl⟩)
      have hq2 := fo.1 _ _ hq (.inr ⟨_, rfl⟩)
      wtm_at "ev_go"
      refine .inl ⟨a2, b1, A2, B1, rfl, fo.1 _ _ ha2 (.inl na2), fo.1 _ _ hb1 (.inl nb1), by rw [eA2.1, eB1.1], by rw [eA2.1]; omega, by rw [eA2.1]; omega, fun j1 H3 s3 m1 => ?_⟩
      wtm_at "ev_go"
      have hp3 := s3 _ _ hp2
      have hq3 := s3 _ _ hq2
      wtm_at "ev_go"
      refine .inl ⟨a1, b2, A1, B2, rfl, s3 _ _ (fo.1 _ _ ha1 (.inl na1)), s3 _ _ (fo.1 _ _ hb2 (.inl nb2)), by rw [eA1.1, eB2.1], by rw [eA1.1]; omega, by rw [eA1.1]; omega, fun j2 H4 s4 m2 => ?_⟩
      wtm_at "ev_go"
      intro T hT
      exact fin T _ (if j1 < c1 then j1 else c1) _ H4 (s3.trans s4) hT (by split <;> split <;> omega) (lw_two eA1 eB2 h2 m2 (minOf c2 j2)) (lw_two eA2 eB1 h1 m1 (minOf c1 j1))
end
end

section
theorem rd_forZ {K : PySem.W.Frag} {σ : L2.St} {H : Hp} {ta : TA} {g : TG} {tb : TS} {D : Ends} (h : ta σ H fun vs1 H1 => ∃ a b xs ys, vs1 = [.ref a, .ref b] ∧ SqL K H1 a xs ∧ SqL K H1 b ys ∧ tFor (fun _ H' R => R (Itz K a b) H') g tb D σ H1) : tFor (iZip K ta) g tb D σ H := h
theorem rd_forZp {K : PySem.W.Frag} {σ : L2.St} {H : Hp} {a b : Addr} {xs ys : List V} {n : Nat} {g : TG} {tb : TS} {D : Ends} (hn : n = min xs.length ys.length) (Pv : Nat → L2.St → Hp → Prop) (h0 : Pv 0 σ H) (hG : ∀ i σ H, i ≤ n → Pv i σ H → SqL K H a xs ∧ SqL K H b ys)
    (hs : ∀ i x σ H H', i < n → Pv i σ H → YPair (fun i => xs[i]?) (fun i => ys[i]?) i H x H' → g x σ H' fun σ2 H2 => tb { D with nx := Pv (i + 1), ct := Pv (i + 1), bk := D.nx } σ2 H2) (hd : ∀ σ H, Pv n σ H → D.nx σ H) :
    tFor (fun _ H' R => R (Itz K a b) H') g tb D σ H := for_it (walk_zip hn) Pv h0 hG hs hd
/-- one tie more among the rows -/
def spExtend (cT : Addr) : Sp := fun vs H Q _ => ∃ (t dx lr lv cm : Addr) (fs : List (Str × V)) (LR : List V) (ks : List R3) (R : List (List Int)) (Lv C : List Int), vs = [.ref t, .ref lv, .ref cm] ∧ H t = some (.ins cT dx fs) ∧ fs.lookup ("_rows" : Str) = some (.ref lr) ∧ fs.length ≤ 3 ∧ H lr = some (.lst LR) ∧ RwL H LR R ∧
  R.length = ks.length ∧ (∀ r ∈ R, r.length = ks.length) ∧ Lv.length = ks.length ∧ C.length = ks.length ∧ ks.length ≤ 900 ∧ H lv = some (.lst (Lv.map V.int)) ∧ H cm = some (.lst (C.map V.int)) ∧
  ∀ (lr2 : Addr) (LR2 : List V) (R2 : List (List Int)) (H' : Hp), H lr2 = none → H' lr2 = some (.lst LR2) → RwL H' LR2 R2 → (∀ a, V.ref a ∈ LR2 → H a = none) → Rows2 ks R R2 C Lv → Fr t H H' → H' t = some (.ins cT dx (putF "_rows" (.ref lr2) fs)) → Q .non H'
section
variable {P : Program} {w : World} {K : PySem.W.Frag} {mg : Str → Option Value} {base : Heap} {cT fT cM cS fS fM fG : Addr}
theorem ok_extend {f : Addr} {fd : FuncData} (F : Fun K "_extend" "Ties._extend" s_Ties_extend f fd) (T : Blt mg) (Y : TxY K mg cT fT) : FnOk P w K mg base CX0 1 f fd ["self", "leaving", "coming"] (spExtend cT) := by
  refine F.ok sc_Ties_extend (fun vs H Q E h => ?_) (fun cdv A outer s H vs Q E hr h => ?_)
  · obtain ⟨t, dx, lr, lv, cm, fs, LR, ks, R, Lv, C, rfl, _⟩ := h
    rfl
  · obtain ⟨t, dx, lr, lv, cm, fs, LR, ks, R, Lv, C, rfl, ht, f3, fl, hlr, hR, nR, nr, nL, nC, k9, hlv, hcm, q⟩ := h
    refine ⟨_, (pss_cons (ps_set (i := 3) sc_Ties_extend.nd rfl (Or.inl rfl) (pe_lst pa_nil))
      (pss_cons (ps_for PassesOwn.never rfl (pi_zip (by rfl) T.n_zip (pa_cons (pe_fld (pv 0) rfl) (pa_cons (pv 2) pa_nil))) (pg_tup rfl (pgs_cons (pg_name (i := 4) sc_Ties_extend.nd rfl (Or.inl rfl)) (pgs_cons (pg_name (i := 5) sc_Ties_extend.nd rfl (Or.inr rfl)) pgs_nil))) 
        (pss_one (ps_expr (pe_bm PySem.F.plainAttrs_list PySem.F.slot_list_append PySem.F.type_list_append mt_append (pv 3) (pa_cons (pe_op op_cat (pe_lc (own := [("told", 6), ("leave", 7)]) (g := gTup K 2 (gCons (gName 6) (gCons (gName 7) gNil))) (tt := tYes) rfl sc_Ties_extend.nd (pi_zip (by rfl) T.n_zip (pa_cons (pv 4) (pa_cons (pv 1) pa_nil))) (blkOk_by (N := ["self", "leaving", "coming", "rows", "row", "come", "told", "leave"]) (sc := defScope s_Ties_extend) (by decide +kernel)) (fun _ _ _ _ _ => pg_tup rfl (pgs_cons (pg_name (i := 6) sc_Ties_extend.nd rfl (Or.inl rfl)) (pgs_cons (pg_name (i := 7) sc_Ties_extend.nd rfl (Or.inl rfl)) pgs_nil))) (fun _ _ _ _ _ => pts_nil) (fun _ _ _ _ _ => (pe_callB (call_min2 rfl) (by rfl) T.n_min boot_min (pa_cons (pv 6) (pa_cons (pe_op op_add (pv 5) (pv 7)) pa_nil))))) (pe_lst (pa_cons (pv 5) pa_nil))) pa_nil)))))
      (pss_one (ps_fld (pv 0) (pe_op op_cat (pv 3) (pe_lst (pa_cons (pe_op op_cat (pv 1) (pe_lst (pa_cons pe_int pa_nil))) pa_nil))) rfl)))), ?_⟩
    have e1 := SqL.of (K := K) hlv
    have e2 := SqL.of (K := K) hcm
    wtm_at "ev_go"
    intro rw_ hrw
    wtm_at "ev_go"
    have ntr : t ≠ rw_ := ne_of_none ht hrw
    have nlr : lr ≠ rw_ := ne_of_none hlr hrw
    have nvr : lv ≠ rw_ := ne_of_none hlv hrw
    have ncr : cm ≠ rw_ := ne_of_none hcm hrw
    refine rd_forZ ?_
    wtm_at "ev_go"
    refine rd_fldA (lk_ne ntr ht) Y.cls Y.n3 f3 ?_
    wtm_at "ev_go"
    refine ⟨lr, cm, LR, C.map V.int, rfl, SqL.of (lk_ne nlr hlr), SqL.of (lk_ne ncr hcm), ?_⟩
    refine rd_forZp (xs := LR) (ys := C.map V.int) (n := ks.length) (by rw [List.length_map, hR.1, nR, nC, Nat.min_self]) (fun i σ' H' => ∃ (x4 x5 : Option V) (LR' : List V) (R' : List (List Int)), σ' = [some (.ref t), some (.ref lv), some (.ref cm), some (.ref rw_), x4, x5, none, none] ∧ Same H H' ∧ H' rw_ = some (.lst LR') ∧ RwL H' LR' R' ∧ R'.length = i ∧ (∀ a, V.ref a ∈ LR' → H a = none ∧ a ≠ rw_) ∧
      ∀ (j : Nat) (row : List Int) (c : Int), j < i → R[j]? = some row → C[j]? = some c → ∃ row2, R'[j]? = some (row2 ++ [c]) ∧ row2.length = ks.length ∧ ∀ (j2 : Nat) (t l : Int), row[j2]? = some t → Lv[j2]? = some l → ∃ m, row2[j2]? = some m ∧ MinOf t (c + l) m)
      ⟨none, none, [], [], rfl, Same.new hrw, upd_same, ⟨rfl, fun i v e => by cases e⟩, rfl, (fun a m => by cases m), fun j row c h => absurd h (Nat.not_lt_zero j)⟩ ?_ ?_ ?_
    · rintro i σ' H' _ ⟨x4, x5, LR', R', rfl, sm, _⟩
      exact ⟨SqL.of (sm _ _ hlr), SqL.of (sm _ _ hcm)⟩
    · rintro i v σ' H' H1 hi ⟨x4, x5, LR', R', rfl, sm, hr2, hR2, n2, fr2, pr⟩ ⟨p, rv, cv, rfl, hp, rfl, er, ec⟩
      obtain ⟨ra, r, rfl, er2, hra⟩ := hR.2 i _ er
      have ec1 := List.getElem?_eq_getElem (show i < C.length by omega)
      replace ec : (C.map V.int)[i]? = some cv := ec
      rw [List.getElem?_map, ec1] at ec
      cases ec
      have lrow := nr r (List.mem_of_getElem? er2)
      have npr : rw_ ≠ p := ne_of_none hr2 hp
      have s1 : Same H' (upd H' p (.tup [.ref ra, .int C[i]])) := Same.new hp
      have hp1 : upd H' p (.tup [.ref ra, .int C[i]]) p = some (.tup [.ref ra, .int C[i]]) := upd_same
      generalize upd H' p (.tup [.ref ra, .int C[i]]) = H1 at s1 hp1
      have l2 : LR'.length = i := by rw [hR2.1, n2]
      refine rd_gtup (SqT.of hp1) rfl ?_
      wtm_at "ev_go"
      refine rd_lcZp ?_
      wtm_at "ev_go"
      have sA := sm.trans s1
      refine ⟨ra, lv, _, _, rfl, SqL.of (sA _ _ hra), SqL.of (sA _ _ hlv), ?_⟩
      refine rd_lcY (fun told leave => if C[i] + leave < told then C[i] + leave else told) (SqL.of (sA _ _ hra)) (SqL.of (sA _ _ hlv)) (by omega) (by omega) rfl (fun x y => rfl) (fun i x y H' Q' ex ey sm fin => ?_) (fun l zs H2 s2 hl hl2 lz hz => ?_)
      · wtm_at "ev_go"
        exact fin
      · wtm_at "ev_go"
        intro a1 ha1
        have n1 : l ≠ a1 := ne_of_none hl2 ha1
        have s3 : Same H2 (upd H2 a1 (.lst [.int C[i]])) := Same.new ha1
        refine rd_cat (s3 _ _ hl2) upd_same (by simp; omega) (fun a2 ha2 => ?_)
        have s4 := Same.new (o := .lst (zs.map V.int ++ [.int C[i]])) ha2
        have sB := (s2.trans s3).trans s4
        have ha3 : upd (upd H2 a1 (.lst [.int C[i]])) a2 (.lst (zs.map V.int ++ [.int C[i]])) a2 = some (.lst ((zs ++ [C[i]]).map V.int)) := by rw [upd_same, List.map_append]; rfl
        have h0 : ∀ c, H1 c = none → H c = none := fun c z => by
          cases e : H c with
          | none => rfl
          | some o => rw [sA _ _ e] at z; cases z
        have ha0 : H1 a2 = none := by
          cases e : H1 a2 with
          | none => rfl
          | some o => rw [s3 _ _ (s2 _ _ e)] at ha2; cases ha2
        have na2 : a2 ≠ rw_ := fun z => by rw [z, s1 _ _ hr2] at ha0; cases ha0
        generalize upd (upd H2 a1 (.lst [.int C[i]])) a2 (.lst (zs.map V.int ++ [.int C[i]])) = H5 at sB ha3
        wtm_at "ev_go"
        refine rd_append (sB _ _ (s1 _ _ hr2)) (by omega) ?_
        have sC := s1.trans sB
        refine ⟨_, _, LR' ++ [.ref a2], R' ++ [zs ++ [C[i]]], rfl, fun c o e => lk_ne (fun z => by rw [z, hrw] at e; cases e) (sC _ _ (sm _ _ e)), upd_same, ⟨by rw [List.length_append, List.length_append, hR2.1]; rfl, fun j v e => ?_⟩, by rw [List.length_append, n2]; rfl, fun a m => ?_, fun j row c hj e e2 => ?_⟩
        · by_cases c : j < LR'.length
          · rw [List.getElem?_append_left c] at e
            obtain ⟨b, r', h1, h2, h3⟩ := hR2.2 j v e
            have nb : b ≠ rw_ := (fr2 b (by rw [← h1]; exact List.mem_of_getElem? e)).2
            exact ⟨b, r', h1, by rw [List.getElem?_append_left (by omega)]; exact h2, lk_ne nb (sC _ _ h3)⟩
          · rw [List.getElem?_append_right (by omega)] at e
            have j1 := (List.getElem?_eq_some_iff.mp e).1
            rw [List.length_singleton] at j1
            have z1 : j - LR'.length = 0 := by omega
            have z2 : j - R'.length = 0 := by omega
            rw [z1] at e
            cases e
            exact ⟨a2, _, rfl, by rw [List.getElem?_append_right (by omega), z2]; rfl, lk_ne na2 ha3⟩
        · rcases List.mem_append.mp m with m | m
          · exact fr2 a m
          · cases List.mem_singleton.mp m
            exact ⟨h0 _ ha0, na2⟩
        · by_cases cj : j < i
          · obtain ⟨row2, h1, h2, h3⟩ := pr j row c cj e e2
            exact ⟨row2, by rw [List.getElem?_append_left (by omega)]; exact h1, h2, h3⟩
          · have ej : j = i := by omega
            subst ej
            rw [er2] at e
            cases e
            rw [ec1] at e2
            cases e2
            refine ⟨zs, by rw [List.getElem?_append_right (by omega), n2, Nat.sub_self]; rfl, by rw [lz, nL], fun j2 t l e3 e4 => ⟨_, hz j2 t l e3 e4, minOf t (C[j] + l)⟩⟩
    · rintro σ' H' ⟨x4, x5, LR', R', rfl, sm, hr2, hR2, n2, fr2, pr⟩
      have l2 : LR'.length = ks.length := by rw [hR2.1, n2]
      wtm_at "ev_go"
      intro a1 ha1
      have s1 : Same H' (upd H' a1 (.lst [.int 0])) := Same.new ha1
      refine rd_cat (s1 _ _ (sm _ _ hlv)) upd_same (by simp; omega) (fun a2 ha2 => ?_)
      have s2 := Same.new (o := .lst (Lv.map V.int ++ [.int 0])) ha2
      have ha22 : upd (upd H' a1 (.lst [.int 0])) a2 (.lst (Lv.map V.int ++ [.int 0])) a2 = some (.lst ((Lv ++ [0]).map V.int)) := by rw [upd_same, List.map_append]; rfl
      have sA := s1.trans s2
      have d2 : H' a2 = none := by
        cases e : H' a2 with
        | none => rfl
        | some o => rw [s1 _ _ e] at ha2; cases ha2
      generalize upd (upd H' a1 (.lst [.int 0])) a2 (.lst (Lv.map V.int ++ [.int 0])) = H2 at sA ha22
      wtm_at "ev_go"
      intro a3 ha3
      have s3 : Same H2 (upd H2 a3 (.lst [.ref a2])) := Same.new ha3
      refine rd_cat (s3 _ _ (sA _ _ hr2)) upd_same (by simp; omega) (fun a4 ha4 => ?_)
      have s4 := Same.new (o := .lst (LR' ++ [.ref a2])) ha4
      have ha44 : upd (upd H2 a3 (.lst [.ref a2])) a4 (.lst (LR' ++ [.ref a2])) a4 = some (.lst (LR' ++ [.ref a2])) := upd_same
      have sB := s3.trans s4
      have d4 : H' a4 = none := by
        cases e : H' a4 with
        | none => rfl
        | some o => rw [s3 _ _ (sA _ _ e)] at ha4; cases ha4
      generalize upd (upd H2 a3 (.lst [.ref a2])) a4 (.lst (LR' ++ [.ref a2])) = H4 at sB ha44
      have sC := sA.trans sB
      wtm_at "ev_go"
      refine rd_sfldA (sC _ _ (sm _ _ ht)) Y.cls Y.n3 (by omega) ?_
      have h0 : ∀ c, H' c = none → H c = none := fun c z => by
        cases e : H c with
        | none => rfl
        | some o => rw [sm _ _ e] at z; cases z
      have nt : ∀ c, H' c = none → c ≠ t := fun c z e => by rw [e, sm _ _ ht] at z; cases z
      have alt : ∀ c, H c = none → c ≠ t := fun c z e => by rw [e, ht] at z; cases z
      wtm_at "ev_go"
      refine q a4 _ (R' ++ [Lv ++ [0]]) _ (h0 _ d4) (lk_ne (nt _ d4) ha44) ⟨by rw [List.length_append, List.length_append, hR2.1]; rfl, fun j v e => ?_⟩ (fun a m => ?_) ⟨by rw [List.length_append, n2]; rfl, fun j row c e e2 => ?_, by rw [List.getElem?_append_right (by omega), n2, Nat.sub_self]; rfl⟩ (fun c o e n => lk_ne n (sC _ _ (sm _ _ e))) upd_same
      · by_cases c : j < LR'.length
        · rw [List.getElem?_append_left c] at e
          obtain ⟨b, r', h1, h2, h3⟩ := hR2.2 j v e
          have nb : b ≠ t := alt _ (fr2 b (by rw [← h1]; exact List.mem_of_getElem? e)).1
          exact ⟨b, r', h1, by rw [List.getElem?_append_left (by omega)]; exact h2, lk_ne nb (sC _ _ h3)⟩
        · rw [List.getElem?_append_right (by omega)] at e
          have j1 := (List.getElem?_eq_some_iff.mp e).1
          rw [List.length_singleton] at j1
          have z1 : j - LR'.length = 0 := by omega
          have z2 : j - R'.length = 0 := by omega
          rw [z1] at e
          cases e
          exact ⟨a2, _, rfl, by rw [List.getElem?_append_right (by omega), z2]; rfl, lk_ne (nt _ d2) (sB _ _ ha22)⟩
      · rcases List.mem_append.mp m with m | m
        · exact (fr2 a m).1
        · cases List.mem_singleton.mp m
          exact h0 _ d2
      · have hj := (List.getElem?_eq_some_iff.mp e).1
        obtain ⟨row2, h1, h2, h3⟩ := pr j row c (by omega) e e2
        exact ⟨row2, by rw [List.getElem?_append_left (by omega)]; exact h1, h2, h3⟩
end
end

section
theorem rd_lcRw {K : PySem.W.Frag} {σ : L2.St} {H : Hp} {a : Addr} {LR : List V} {rows : List (List Int)} {s1 : Nat} {te : TE} {Q : VK} (f : Nat → Int → Prop) (hL : SqL K H a LR) (hR : RwL H LR rows) (hn : LR.length ≤ 1000)
    (hw : ∀ x : V, L2.wipe ((L2.wipe σ [s1]).set s1 (some x)) [s1] = L2.wipe σ [s1])
    (he : ∀ (i : Nat) (ra : Addr) (r : List Int) (H' : Hp) (Q' : VK), rows[i]? = some r → Same H H' → H' ra = some (.lst (r.map V.int)) → (∀ (x : Int) (H'' : Hp), Same H' H'' → f i x → Q' (.int x) H'') → te ((L2.wipe σ [s1]).set s1 (some (.ref ra))) H' Q')
    (q : ∀ (l : Addr) (ys : List Int) (H' : Hp), Same H H' → H l = none → H' l = some (.lst (ys.map V.int)) → ys.length = rows.length → (∀ i x, ys[i]? = some x → f i x) → Q (.ref l) H') :
    tLc (fun _ H' R => R (Itl K a) H') (gName s1) tYes te [s1] σ H Q := fun l hl => by
  refine lc_it (walk_list (xs := LR)) (fun i H' => ∃ ys : List Int, Same H H' ∧ H' l = some (.lst (ys.map V.int)) ∧ ys.length = i ∧ ∀ j x, ys[j]? = some x → f j x) ⟨[], Same.new hl, upd_same, rfl, fun j x e => by simp at e⟩ (fun i H' _ h => by obtain ⟨_, s, _⟩ := h; exact sqL_keep hL s) (fun i v H1 H' hi h y => ?_) (fun H' h => ?_)
  · obtain ⟨ys, sm, hacc, hlen, hys⟩ := h
    obtain ⟨rfl, ev⟩ := y
    obtain ⟨ra, r, rfl, er, hr⟩ := hR.2 i v ev
    refine ⟨hw _, ?_⟩
    dsimp only [tYes]
    rw [if_pos rfl]
    refine he i ra r _ _ er sm (sm _ _ hr) (fun x H'' s3 fx => ⟨ys.map V.int, s3 _ _ hacc, by rw [List.length_map, sizeLine_eq]; omega, ys ++ [x], fun c o z => ?_, ?_, by rw [List.length_append, hlen]; rfl, fun j z ez => ?_⟩)
    · rw [upd_ne (ne_of_none z hl)]
      exact s3 _ _ (sm _ _ z)
    · rw [upd_same, List.map_append]
      rfl
    · rw [List.getElem?_append] at ez
      by_cases c : j < ys.length
      · rw [if_pos c] at ez
        exact hys j z ez
      · rw [if_neg c] at ez
        cases ek : j - ys.length with
        | succ k => rw [ek] at ez; cases ez
        | zero =>
          rw [ek] at ez
          cases ez
          have : j = i := by omega
          rw [this]
          exact fx
  · obtain ⟨ys, sm, hacc, hlen, hys⟩ := h
    exact q l ys H' sm hl hacc (by rw [hlen, hR.1]) hys
/-- what stays when a tie is added -/
def FrT (t lt : Addr) (ow : Addr → Prop) (H H' : Hp) : Prop := (∀ c o, H c = some o → c ≠ t → c ≠ lt → (¬ ow c ∨ ∃ xs, o = .tup xs) → H' c = some o) ∧ ∀ c, H c ≠ none → H' c ≠ none
def spAdd (cT cM cS : Addr) : Sp := fun vs H Q _ => ∃ (t m dx lt lr : Addr) (f l tot : Int) (ow : Addr → Prop) (fs : List (Str × V)) (L LR : List V) (us ds : List (Int × Int)) (ks : List R3) (R : List (List Int)), vs = [.ref t, .int f, .int l, .int tot] ∧ f.natAbs ≤ 10 ^ 40 ∧ l.natAbs ≤ 10 ^ 40 ∧ TB ks ∧
  TiesO cT H t m ow dx lt lr fs L LR ks R ∧ SumsAt cM cS H m ow us ds ∧ MatOk us ds ks R ∧ Cons us ds ks ∧
  ∀ (H' : Hp) (ow' : Addr → Prop), FrT t lt ow H H' → (∀ c, ow' c → ow c ∨ H c = none) → SumsAt cM cS H' m ow' us ds →
    (¬ Cons us ds (ks ++ [(f, l, tot)]) → Q (.bl false) H') ∧
    ∀ (lr' : Addr) (fs' : List (Str × V)) (L' LR' : List V) (ks' : List R3) (R' : List (List Int)), TiesO cT H' t m ow' dx lt lr' fs' L' LR' ks' R' → MatOk us ds ks' R' → Cons us ds ks' → Cons us ds (ks ++ [(f, l, tot)]) → (ks' = ks ∧ LW us ds ks f l tot ∧ LW us ds ks l f (-tot) ∨ ks' = ks ++ [(f, l, tot)]) → Q (.bl true) H'
section
variable {P : Program} {w : World} {K : PySem.W.Frag} {mg : Str → Option Value} {base : Heap} {cT fT cM cS fS fM fG fWa fHe fEx : Addr} {fdWa fdHe fdEx : FuncData}
set_option maxHeartbeats 2000000 in
theorem ok_add {f : Addr} {fd : FuncData} (F : Fun K "add_tie" "Ties.add_tie" s_Ties_add_tie f fd) (T : Blt mg) (Y : TxY K mg cT fT) (mWa : Meth K cT "_ways" fWa) (GWA : FnOk P w K mg base CX0 5 fWa fdWa ["self", "place"] (spWays cT cM cS)) (bWa : Binds K fdWa ["self", "place"] [])
    (mHe : Meth K cT "_heights" fHe) (GHE : FnOk P w K mg base CX0 5 fHe fdHe ["self", "days", "ways", "last_ways"] (spHeights cT cM cS)) (bHe : Binds K fdHe ["self", "days", "ways", "last_ways"] [])
    (mEx : Meth K cT "_extend" fEx) (GEX : FnOk P w K mg base CX0 1 fEx fdEx ["self", "leaving", "coming"] (spExtend cT)) (bEx : Binds K fdEx ["self", "leaving", "coming"] []) (GJ : CalN P w K mg base 1 "least_joined" (spJoin K)) : FnOk P w K mg base CX0 6 f fd ["self", "first", "last", "total"] (spAdd cT cM cS) := by
  refine F.ok sc_Ties_add_tie (fun vs H Q E h => ?_) (fun cdv A outer s H vs Q E hr h => ?_)
  · obtain ⟨t, m, dx, lt, lr, f, l, tot, ow, fs, L, LR, us, ds, ks, R, rfl, _⟩ := h
    rfl
  · obtain ⟨t, m, dx, lt, lr, f, l, tot, ow, fs, L, LR, us, ds, ks, R, rfl, bf, bl, hb, ho, sa, mo, hc, q⟩ := h
    refine ⟨_, (pss_cons (ps_par (i := 4) (j := 5) (by rfl) sc_Ties_add_tie.nd rfl rfl (by decide) rfl rfl (pa_cons (pe_meth (pv 0) Y.cls mWa GWA (hr.mono (by decide)) bWa .nil pass0 (pa_cons (pv 1) pa_nil)) (pa_cons (pe_meth (pv 0) Y.cls mWa GWA (hr.mono (by decide)) bWa .nil pass0 (pa_cons (pv 2) pa_nil)) pa_nil)) (by rfl))
      (pss_cons (ps_asg (pe_meth (pv 0) Y.cls mHe GHE (hr.mono (by decide)) bHe .nil pass0 (pa_cons (pe_op op_sub (pv 2) (pv 1)) (pa_cons (pv 4) (pa_cons (pv 5) pa_nil)))) (pg_tup rfl (pgs_cons (pg_name (i := 6) sc_Ties_add_tie.nd rfl (Or.inl rfl)) (pgs_cons (pg_name (i := 7) sc_Ties_add_tie.nd rfl (Or.inl rfl)) pgs_nil))))
      (pss_cons (ps_if (pw_or (pt_cmpR op_lt (pv 3) (pv 6) (nomark _)) (pw_or1 (pt_cmpR op_gt (pv 3) (pv 7) (nomark _)))).pt 
        (pss_one (ps_ret pe_bl)) pss_nil)
      (pss_cons (ps_if (pt_cmpR op_lt (pv 6) (pv 7) (nomark _)) 
        (pss_cons (ps_setLc (i := 8) (own := [("here", 10), ("there", 11)]) (g := gTup K 2 (gCons (gName 10) (gCons (gName 11) gNil))) (tt := tYes) rfl sc_Ties_add_tie.nd rfl rfl (sw_true rfl rfl rfl (by decide +kernel)) (pi_zip (by rfl) T.n_zip (pa_cons (pe_ix (show IxR _ (rIxT K) from ix_tup) (pv 4) pe_int (fun _ _ => rfl)) (pa_cons (pe_ix (show IxR _ (rIxT K) from ix_tup) (pv 5) pe_int (fun _ _ => rfl)) pa_nil))) (blkOk_by (N := ["self", "first", "last", "total", "ways", "last_ways", "least", "greatest", "leaving", "coming", "here", "there", "row"]) (sc := defScope s_Ties_add_tie) (by decide +kernel)) (fun _ _ _ _ _ => pg_tup rfl (pgs_cons (pg_name (i := 10) sc_Ties_add_tie.nd rfl (Or.inl rfl)) (pgs_cons (pg_name (i := 11) sc_Ties_add_tie.nd rfl (Or.inl rfl)) pgs_nil))) (fun _ _ _ _ _ => pts_nil) (fun _ _ _ _ _ => (pe_callB (call_min2 rfl) (by rfl) T.n_min boot_min (pa_cons (pv 10) (pa_cons (pe_op op_add (pv 11) (pv 3)) pa_nil)))))
        (pss_cons (ps_set (i := 9) sc_Ties_add_tie.nd rfl (Or.inr rfl) (pe_lc (own := [("here", 10), ("there", 11)]) (g := gTup K 2 (gCons (gName 10) (gCons (gName 11) gNil))) (tt := tYes) rfl sc_Ties_add_tie.nd (pi_zip (by rfl) T.n_zip (pa_cons (pe_ix (show IxR _ (rIxT K) from ix_tup) (pv 4) pe_int (fun _ _ => rfl)) (pa_cons (pe_ix (show IxR _ (rIxT K) from ix_tup) (pv 5) pe_int (fun _ _ => rfl)) pa_nil))) (blkOk_by (N := ["self", "first", "last", "total", "ways", "last_ways", "least", "greatest", "leaving", "coming", "here", "there", "row"]) (sc := defScope s_Ties_add_tie) (by decide +kernel)) (fun _ _ _ _ _ => pg_tup rfl (pgs_cons (pg_name (i := 10) sc_Ties_add_tie.nd rfl (Or.inl rfl)) (pgs_cons (pg_name (i := 11) sc_Ties_add_tie.nd rfl (Or.inl rfl)) pgs_nil))) (fun _ _ _ _ _ => pts_nil) (fun _ _ _ _ _ => (pe_callB (call_min2 rfl) (by rfl) T.n_min boot_min (pa_cons (pv 10) (pa_cons (pe_op op_sub (pv 11) (pv 3)) pa_nil))))))
        (pss_cons (ps_expr (pe_meth (pv 0) Y.cls mEx GEX (hr.mono (by decide)) bEx .nil pass0 (pa_cons (pv 8) (pa_cons (pe_lc (own := [("row", 12)]) (g := gName 12) (tt := tYes) rfl sc_Ties_add_tie.nd (pi_list (pe_fld (pv 0) rfl)) (blkOk_by (N := ["self", "first", "last", "total", "ways", "last_ways", "least", "greatest", "leaving", "coming", "here", "there", "row"]) (sc := defScope s_Ties_add_tie) (by decide +kernel)) (fun _ _ _ _ _ => pg_name (i := 12) sc_Ties_add_tie.nd rfl (Or.inl rfl)) (fun _ _ _ _ _ => pts_nil) (fun _ _ _ _ _ => (pe_cN GJ hr (by decide) (by rfl) (pa_cons (pv 12) (pa_cons (pv 9) pa_nil))))) pa_nil))))
        (pss_one (ps_expr (pe_bm PySem.F.plainAttrs_list PySem.F.slot_list_append PySem.F.type_list_append mt_append (pe_fld (pv 0) rfl) (pa_cons (pe_tup (pa_cons (pv 1) (pa_cons (pv 2) (pa_cons (pv 3) pa_nil)))) pa_nil))))))) pss_nil)
      (pss_one (ps_ret pe_bl)))))), ?_⟩
    wtm_at "ev_go"
    refine ⟨t, dx, fs, rfl, ho.ht, ho.f4 _ (by decide +kernel), ?_⟩
    wtm_at "ev_go"
    refine ⟨t, m, dx, lt, lr, f, ow, fs, L, LR, us, ds, ks, R, rfl, by omega, hb, ho, sa, mo, fun p1 a1 b1 A1 B1 H1 ow1 w1 hp10 hp1 eA1 eB1 => ?_⟩
    have ho1 := ho.fro w1.fo w1.gw
    wtm_at "ev_go"
    refine ⟨t, dx, fs, rfl, ho1.ht, ho1.f4 _ (by decide +kernel), ?_⟩
    wtm_at "ev_go"
    refine ⟨t, m, dx, lt, lr, l, ow1, fs, L, LR, us, ds, ks, R, rfl, by omega, hb, ho1, w1.sa, mo, fun p2 a2 b2 A2 B2 H2 ow2 w2 hp20 hp2 eA2 eB2 => ?_⟩
    have ho2 := ho1.fro w2.fo w2.gw
    have hp12 := w2.fo.1 _ _ hp1 (.inr ⟨_, rfl⟩)
    have ha12 := w2.fo.1 _ _ w1.a (.inl w1.na)
    have hb12 := w2.fo.1 _ _ w1.b (.inl w1.nb)
    have no2 : ∀ c o, H1 c = some o → ¬ ow1 c → ¬ ow2 c := fun c o e n z => by
      rcases w2.gw c z with z | z
      · exact n z
      · rw [e] at z; cases z
    have na1 := no2 _ _ w1.a w1.na
    have nb1 := no2 _ _ w1.b w1.nb
    wtm_at "ev_go"
    refine ⟨t, dx, fs, rfl, ho2.ht, ho2.f4 _ (by decide +kernel), ?_⟩
    wtm_at "ev_go"
    refine ⟨t, m, dx, lt, lr, p1, p2, a1, b1, a2, b2, f, l, l - f, ow2, fs, L, LR, us, ds, ks, R, A1, B1, A2, B2, rfl, rfl, by omega, by omega, hb.1, ho2, w2.sa, hp12, hp2, ha12, hb12, w2.a, w2.b, na1, nb1, w2.na, w2.nb, eA1, eB1, eA2, eB2, fun T3 c d H3 ow3 fo3 gw3 sa3 hT30 hT3 lc ld => ?_⟩
    have ho3 := ho2.fro fo3 gw3
    have fo := (w1.fo.trans w2.fo w1.gw)
    have g2 : ∀ c, ow2 c → ow c ∨ H c = none := fun c z => by
      rcases w2.gw c z with z | z
      · exact w1.gw c z
      · cases e : H c with
        | none => exact .inr rfl
        | some o => exact absurd z (w1.fo.2 c (by rw [e]; intro z; cases z))
    have foA := fo.trans fo3 g2
    have gwA : ∀ c, ow3 c → ow c ∨ H c = none := fun c z => by
      rcases gw3 c z with z | z
      · exact g2 c z
      · cases e : H c with
        | none => exact .inr rfl
        | some o => exact absurd z (fo.2 c (by rw [e]; intro z; cases z))
    refine rd_gtup (SqT.of hT3) rfl ?_
    wtm_at "ev_go"
    have frA : FrT t lt ow H H3 := ⟨fun c o e _ _ w => foA.1 c o e w, foA.2⟩
    by_cases c1 : tot < -d
    · rw [if_pos (decide_eq_true c1), if_pos trivial]
      wtm_at "ev_go"
      exact (q H3 ow3 frA gwA sa3).1 (not_cons (.inr ⟨ld, c1⟩))
    rw [if_neg (by rw [decide_eq_true_iff]; exact c1)]
    wtm_at "ev_go"
    refine rd_ite (fun c2 => ?_) (fun c2 => ?_)
    · wtm_at "ev_go"
      exact (q H3 ow3 frA gwA sa3).1 (not_cons (.inl ⟨lc, c2⟩))
    have h1 : ∀ c', Way us ds ks f l c' → tot ≤ c' := fun c' w => by have := lc.2 _ w; omega
    have h2 : ∀ c', Way us ds ks l f c' → -tot ≤ c' := fun c' w => by have := ld.2 _ w; omega
    have hc2 := hc.add h1 h2
    wtm_at "ev_go"
    refine rd_ite (fun c3 => ?_) (fun c3 => ?_)
    · have hp13 := fo3.1 _ _ hp12 (.inr ⟨_, rfl⟩)
      have hp23 := fo3.1 _ _ hp2 (.inr ⟨_, rfl⟩)
      have ha13 := fo3.1 _ _ ha12 (.inl na1)
      have ha23 := fo3.1 _ _ w2.a (.inl w2.na)
      have hb13 := fo3.1 _ _ hb12 (.inl nb1)
      have hb23 := fo3.1 _ _ w2.b (.inl w2.nb)
      have hl9 := hb.1
      have qA1 := eA1.1
      have qA2 := eA2.1
      have qB1 := eB1.1
      have qB2 := eB2.1
      wtm_at "ev_go"
      refine rd_lcZp ?_
      wtm_at "ev_go"
      refine ⟨a1, a2, _, _, rfl, SqL.of ha13, SqL.of ha23, ?_⟩
      refine rd_lcY (fun x y => if y + tot < x then y + tot else x) (SqL.of ha13) (SqL.of ha23) (by omega) (by omega) rfl (fun x y => rfl) (fun i x y H' Q' ex ey sm fin => ?_) (fun lv Lv H4 s4 hlv0 hlv lLv zLv => ?_)
      · wtm_at "ev_go"
        exact fin
      have hp14 := s4 _ _ hp13
      have hp24 := s4 _ _ hp23
      wtm_at "ev_go"
      refine rd_lcZp ?_
      wtm_at "ev_go"
      refine ⟨b1, b2, _, _, rfl, SqL.of (s4 _ _ hb13), SqL.of (s4 _ _ hb23), ?_⟩
      refine rd_lcY (fun x y => if y - tot < x then y - tot else x) (SqL.of (s4 _ _ hb13)) (SqL.of (s4 _ _ hb23)) (by omega) (by omega) rfl (fun x y => rfl) (fun i x y H' Q' ex ey sm fin => ?_) (fun cm Cm H5 s5 hcm0 hcm lCm zCm => ?_)
      · wtm_at "ev_go"
        exact fin
      have ho5 := ho3.same (s4.trans s5)
      wtm_at "ev_go"
      refine ⟨t, dx, fs, rfl, ho5.ht, ho5.f4 _ (by decide +kernel), ?_⟩
      wtm_at "ev_go"
      refine rd_fldA ho5.ht Y.cls Y.n3 ho.f3 ?_
      refine ⟨lr, rfl, ⟨_, SqL.of ho5.hlr⟩, ?_⟩
      have rlen : ∀ (i : Nat) (r : List Int), R[i]? = some r → r.length = ks.length := fun i r e => by
        have hi := (List.getElem?_eq_some_iff.mp e).1
        exact (mo.r i _ r (List.getElem?_eq_getElem (show i < ks.length by rw [← mo.n]; exact hi)) e).1
      refine rd_lcRw (fun i x => ∀ row, R[i]? = some row → LeastJ row Cm x) (SqL.of ho5.hlr) ho5.hR (by rw [ho5.hR.1, mo.n]; omega) (fun x => rfl) (fun i ra r H' Q' er sm hra fin => ?_) (fun C6 C H6 s6 hC0 hC lC zC => ?_)
      · have hi := (List.getElem?_eq_some_iff.mp er).1
        rw [mo.n] at hi
        have := rlen i r er
        wtm_at "ev_go"
        refine .inl ⟨ra, cm, r, Cm, rfl, hra, sm _ _ hcm, by omega, by omega, by omega, fun x H'' s2 lj => ?_⟩
        exact fin x H'' s2 fun row e => by rw [er] at e; cases e; exact lj
      have ho6 := ho5.same s6
      have s36 := (s4.trans s5).trans s6
      wtm_at "ev_go"
      refine ⟨t, dx, lr, lv, C6, fs, LR, ks, R, Lv, C, rfl, ho6.ht, ho.f3, ho.len, ho6.hlr, ho6.hR, mo.n, fun r m => ?_, by omega, by rw [lC, mo.n], hb.1, s6 _ _ (s5 _ _ hlv), hC, fun lr2 LR2 R2 H7 hl20 hl2 hR2 new2 rw2 fr7 ht7 => ?_⟩
      · obtain ⟨i, hi⟩ := List.getElem?_of_mem m
        exact rlen i r hi
      wtm_at "ev_go"
      have f2' : (putF "_rows" (.ref lr2) fs).lookup ("_ties" : Str) = some (.ref lt) := by rw [lk_put (by decide)]; exact ho.f2
      have ntl : t ≠ lt := fun z => by have := ho.ht; rw [z, ho.hlt] at this; cases this
      have hlt7 := fr7 _ _ ho6.hlt (Ne.symm ntl)
      have hLl : L.length = ks.length := ho.hL.1
      refine rd_fldA ht7 Y.cls Y.n2 f2' ?_
      refine rd_tyL (SqL.of hlt7) ?_
      wtm_at "ev_go"
      intro tp htp
      have s8 : Same H7 (upd H7 tp (.tup [.int f, .int l, .int tot])) := Same.new htp
      have htp8 : upd H7 tp (.tup [.int f, .int l, .int tot]) tp = some (.tup [.int f, .int l, .int tot]) := upd_same
      have tpt : tp ≠ t := fun z => by rw [z, ht7] at htp; cases htp
      have tpl : tp ≠ lt := fun z => by rw [z, hlt7] at htp; cases htp
      generalize upd H7 tp (.tup [.int f, .int l, .int tot]) = H8 at s8 htp8
      wtm_at "ev_go"
      refine rd_append (s8 _ _ hlt7) (by omega) ?_
      -- what stays from H3 on
      have k39 : ∀ c o, H3 c = some o → c ≠ t → c ≠ lt → upd H8 lt (.lst (L ++ [.ref tp])) c = some o := fun c o e n1 n2 => lk_ne n2 (s8 _ _ (fr7 _ _ (s36 _ _ e) n1))
      have al9 : ∀ c, H3 c ≠ none → upd H8 lt (.lst (L ++ [.ref tp])) c ≠ none := fun c h z => by
        by_cases n2 : c = lt
        · rw [n2, upd_same] at z; cases z
        · by_cases n1 : c = t
          · rw [n1, upd_ne ntl, s8 _ _ ht7] at z; cases z
          · cases e : H3 c with
            | none => exact h e
            | some o => rw [k39 c o e n1 n2] at z; cases z
      have fr9 : FrT t lt ow H (upd H8 lt (.lst (L ++ [.ref tp]))) := ⟨fun c o e n1 n2 w => k39 c o (foA.1 c o e w) n1 n2, fun c h => al9 c (foA.2 c h)⟩
      have kp : ∀ c o, H3 c = some o → (ow3 c ∨ ∃ xs, o = .tup xs) → upd H8 lt (.lst (L ++ [.ref tp])) c = some o := fun c o e w => by
        refine k39 c o e (fun z => ?_) fun z => ?_
        · subst z
          rcases w with w | ⟨xs, rfl⟩
          · exact ho3.nt w
          · rw [ho3.ht] at e; cases e
        · subst z
          rcases w with w | ⟨xs, rfl⟩
          · exact ho3.nlt w
          · rw [ho3.hlt] at e; cases e
      have dead : ∀ c, H6 c = none → ¬ ow3 c := fun c z w => by
        cases e : H3 c with
        | none => exact sa3.alive c w e
        | some o => rw [s36 _ _ e] at z; cases z
      have n6 : ∀ c, H6 c = none → c ≠ lt := fun c z w => by rw [w, ho6.hlt] at z; cases z
      have hm2 : MatOk us ds (ks ++ [(f, l, tot)]) R2 := by
        refine mat_add (Af := A1) (Al := A2) (Bf := B1) (Bl := B2) (Lv := Lv) (cm := Cm) (C := C) mo hc h1 h2 eA1 eA2 eB1 eB2 (by omega) (fun j a b e1 e2 => ⟨_, zLv j a b e1 e2, minOf a (b + tot)⟩) (by omega) (fun j a b e1 e2 => ⟨_, zCm j a b e1 e2, minOf a (b - tot)⟩) (by rw [lC, mo.n]) (fun i row c e1 e2 => zC i c e2 row e1) rw2
      refine (q _ ow3 fr9 gwA (sa3.keep kp)).2 lr2 (putF "_rows" (.ref lr2) fs) (L ++ [.ref tp]) LR2 (ks ++ [(f, l, tot)]) R2 ⟨?_, ?_, ?_, lk_put0, ?_, upd_same, ⟨?_, ?_⟩, ?_, ⟨hR2.1, ?_⟩, ho3.nt, ho3.nlt, dead _ hl20, fun a m => ⟨dead _ (new2 a m), n6 _ (new2 a m)⟩, n6 _ hl20, ?_⟩ hm2 hc2 hc2 (.inr rfl)
      · exact lk_ne ntl (s8 _ _ ht7)
      · rw [lk_put (by decide)]; exact ho.f1
      · exact f2'
      · intro k hk
        rw [lk_put (by rintro rfl; exact absurd hk (by decide +kernel))]
        exact ho.f4 k hk
      · rw [List.length_append, List.length_append, hLl]; rfl
      · intro i v e
        by_cases ci : i < L.length
        · rw [List.getElem?_append_left ci] at e
          obtain ⟨a, k, e1, e2, e3⟩ := ho3.hL.2 i v e
          exact ⟨a, k, e1, by rw [List.getElem?_append_left (by omega)]; exact e2, kp _ _ e3 (.inr ⟨_, rfl⟩)⟩
        · rw [List.getElem?_append_right (by omega)] at e
          have j1 := (List.getElem?_eq_some_iff.mp e).1
          rw [List.length_singleton] at j1
          have z1 : i - L.length = 0 := by omega
          have z2 : i - ks.length = 0 := by omega
          rw [z1] at e
          cases e
          exact ⟨tp, _, rfl, by rw [List.getElem?_append_right (by omega), z2]; rfl, lk_ne tpl htp8⟩
      · exact lk_ne (n6 _ hl20) (s8 _ _ hl2)
      · intro i v e
        obtain ⟨a, r, e1, e2, e3⟩ := hR2.2 i v e
        exact ⟨a, r, e1, e2, lk_ne (n6 _ (new2 a (by rw [← e1]; exact List.mem_of_getElem? e))) (s8 _ _ e3)⟩
      · rw [len_putS ho.f3]; exact ho.len
    · have e1 : c = tot := by omega
      have e2 : d = -tot := by omega
      subst e1
      subst e2
      wtm_at "ev_go"
      exact (q H3 ow3 frA gwA sa3).2 lr fs L LR ks R ho3 mo hc hc2 (.inl ⟨rfl, lc, ld⟩)
end
end

section
/-- a known sum as a tie -/
def tieOf (k : R3) : R3 := (k.1, k.1 + k.2.1, k.2.2)
def FarB (kl : List R3) : Prop := ∀ k ∈ kl, k.1.natAbs ≤ 10 ^ 39 ∧ k.2.1.natAbs ≤ 10 ^ 39
theorem FrT.fro {t lt : Addr} {ow : Addr → Prop} {H H' : Hp} (h : FrT t lt ow H H') (h1 : H t = none) (h2 : H lt = none) : FrO ow H H' := ⟨fun c o e w => h.1 c o e (fun z => by rw [z, h1] at e; cases e) (fun z => by rw [z, h2] at e; cases e) w, h.2⟩
theorem FrT.trans {t lt : Addr} {o1 o2 : Addr → Prop} {H H1 H2 : Hp} (h : FrT t lt o1 H H1) (g : FrT t lt o2 H1 H2) (s : ∀ c, o2 c → o1 c ∨ H c = none) : FrT t lt o1 H H2 := ⟨fun c o e n1 n2 w => g.1 c o (h.1 c o e n1 n2 w) n1 n2 (w.imp (fun h z => by
  rcases s c z with z | z
  · exact h z
  · rw [e] at z; cases z) id), fun c e => g.2 c (h.2 c e)⟩
theorem FrT.of {t lt : Addr} {ow : Addr → Prop} {H H' : Hp} (s : Same H H') : FrT t lt ow H H' := ⟨fun c o e _ _ _ => s _ _ e, (FrO.of (ow := ow) s).2⟩
def spAddK (cT cM cS : Addr) : Sp := fun vs H Q _ => ∃ (t m dx lt lr kn : Addr) (ow : Addr → Prop) (fs : List (Str × V)) (L LR KL : List V) (us ds : List (Int × Int)) (ks KA kl : List R3) (R : List (List Int)), vs = [.ref t, .ref kn] ∧
  TiesO cT H t m ow dx lt lr fs L LR ks R ∧ SumsAt cM cS H m ow us ds ∧ MatOk us ds ks R ∧ Cons us ds ks ∧ Stand us ds ks KA ∧ TB ks ∧ ks.length + kl.length ≤ 900 ∧ FarB kl ∧ H kn = some (.lst KL) ∧ R3L H KL kl ∧ ¬ ow kn ∧ kn ≠ lt ∧
  ∀ (H' : Hp) (ow' : Addr → Prop), FrT t lt ow H H' → (∀ c, ow' c → ow c ∨ H c = none) → SumsAt cM cS H' m ow' us ds →
    (∀ (i : Nat), i < kl.length → Cons us ds (KA ++ (kl.take i).map tieOf) → ¬ Cons us ds (KA ++ (kl.take (i + 1)).map tieOf) → Q (.int i) H') ∧
    ∀ (lr' : Addr) (fs' : List (Str × V)) (L' LR' : List V) (ks' : List R3) (R' : List (List Int)), TiesO cT H' t m ow' dx lt lr' fs' L' LR' ks' R' → MatOk us ds ks' R' → Cons us ds ks' → Stand us ds ks' (KA ++ kl.map tieOf) → TB ks' → Q .non H'
def spSure (cT cM cS : Addr) : Sp := fun vs H Q _ => ∃ (t m dx lt lr : Addr) (x y : Int) (ow : Addr → Prop) (fs : List (Str × V)) (L LR : List V) (us ds : List (Int × Int)) (ks : List R3) (R : List (List Int)), vs = [.ref t, .int x, .int y] ∧ x.natAbs ≤ 10 ^ 41 ∧ y.natAbs ≤ 10 ^ 41 ∧ TB ks ∧
  TiesO cT H t m ow dx lt lr fs L LR ks R ∧ SumsAt cM cS H m ow us ds ∧ MatOk us ds ks R ∧
  ∀ (T : Addr) (c d : Int) (H' : Hp) (ow' : Addr → Prop), FrO ow H H' → (∀ c, ow' c → ow c ∨ H c = none) → SumsAt cM cS H' m ow' us ds → H T = none → H' T = some (.tup [.int (-d), .int c]) → LW us ds ks x y c → LW us ds ks y x d → Q (.ref T) H'
section
variable {P : Program} {w : World} {K : PySem.W.Frag} {mg : Str → Option Value} {base : Heap} {cT fT cM cS fS fM fG fWa fHe fAd : Addr} {fdWa fdHe fdAd : FuncData}
theorem ok_sure {f : Addr} {fd : FuncData} (F : Fun K "sure" "Ties.sure" s_Ties_sure f fd) (Y : TxY K mg cT fT) (mWa : Meth K cT "_ways" fWa) (GWA : FnOk P w K mg base CX0 5 fWa fdWa ["self", "place"] (spWays cT cM cS)) (bWa : Binds K fdWa ["self", "place"] [])
    (mHe : Meth K cT "_heights" fHe) (GHE : FnOk P w K mg base CX0 5 fHe fdHe ["self", "days", "ways", "last_ways"] (spHeights cT cM cS)) (bHe : Binds K fdHe ["self", "days", "ways", "last_ways"] []) : FnOk P w K mg base CX0 6 f fd ["self", "first", "last"] (spSure cT cM cS) := by
  refine F.ok sc_Ties_sure (fun vs H Q E h => ?_) (fun cdv A outer s H vs Q E hr h => ?_)
  · obtain ⟨t, m, dx, lt, lr, x, y, ow, fs, L, LR, us, ds, ks, R, rfl, _⟩ := h
    rfl
  · obtain ⟨t, m, dx, lt, lr, x, y, ow, fs, L, LR, us, ds, ks, R, rfl, bx, by_, hb, ho, sa, mo, q⟩ := h
    refine ⟨_, (pss_one (ps_ret (pe_meth (pv 0) Y.cls mHe GHE (hr.mono (by decide)) bHe .nil pass0 (pa_cons (pe_op op_sub (pv 2) (pv 1)) (pa_cons (pe_meth (pv 0) Y.cls mWa GWA (hr.mono (by decide)) bWa .nil pass0 (pa_cons (pv 1) pa_nil)) (pa_cons (pe_meth (pv 0) Y.cls mWa GWA (hr.mono (by decide)) bWa .nil pass0 (pa_cons (pv 2) pa_nil)) pa_nil)))))), ?_⟩
    wtm_at "ev_go"
    refine ⟨t, dx, fs, rfl, ho.ht, ho.f4 _ (by decide +kernel), ?_⟩
    wtm_at "ev_go"
    refine ⟨t, dx, fs, rfl, ho.ht, ho.f4 _ (by decide +kernel), ?_⟩
    wtm_at "ev_go"
    refine ⟨t, m, dx, lt, lr, x, ow, fs, L, LR, us, ds, ks, R, rfl, bx, hb, ho, sa, mo, fun p1 a1 b1 A1 B1 H1 ow1 w1 hp10 hp1 eA1 eB1 => ?_⟩
    have ho1 := ho.fro w1.fo w1.gw
    wtm_at "ev_go"
    refine ⟨t, dx, fs, rfl, ho1.ht, ho1.f4 _ (by decide +kernel), ?_⟩
    wtm_at "ev_go"
    refine ⟨t, m, dx, lt, lr, y, ow1, fs, L, LR, us, ds, ks, R, rfl, by_, hb, ho1, w1.sa, mo, fun p2 a2 b2 A2 B2 H2 ow2 w2 hp20 hp2 eA2 eB2 => ?_⟩
    have ho2 := ho1.fro w2.fo w2.gw
    have hp12 := w2.fo.1 _ _ hp1 (.inr ⟨_, rfl⟩)
    have ha12 := w2.fo.1 _ _ w1.a (.inl w1.na)
    have hb12 := w2.fo.1 _ _ w1.b (.inl w1.nb)
    have no2 : ∀ c o, H1 c = some o → ¬ ow1 c → ¬ ow2 c := fun c o e n z => by
      rcases w2.gw c z with z | z
      · exact n z
      · rw [e] at z; cases z
    have na1 := no2 _ _ w1.a w1.na
    have nb1 := no2 _ _ w1.b w1.nb
    wtm_at "ev_go"
    refine ⟨t, m, dx, lt, lr, p1, p2, a1, b1, a2, b2, x, y, y - x, ow2, fs, L, LR, us, ds, ks, R, A1, B1, A2, B2, rfl, rfl, bx, by_, hb.1, ho2, w2.sa, hp12, hp2, ha12, hb12, w2.a, w2.b, na1, nb1, w2.na, w2.nb, eA1, eB1, eA2, eB2, fun T3 c d H3 ow3 fo3 gw3 sa3 hT30 hT3 lc ld => ?_⟩
    have fo := (w1.fo.trans w2.fo w1.gw)
    have dead2 : ∀ c, H2 c = none → H c = none := fun c z => by
      cases e : H c with
      | none => rfl
      | some o => exact absurd z (fo.2 c (by rw [e]; intro z; cases z))
    have g2 : ∀ c, ow2 c → ow c ∨ H c = none := fun c z => by
      rcases w2.gw c z with z | z
      · exact w1.gw c z
      · cases e : H c with
        | none => exact .inr rfl
        | some o => exact absurd z (w1.fo.2 c (by rw [e]; intro z; cases z))
    exact q T3 c d H3 ow3 (fo.trans fo3 g2) (fun c z => (gw3 c z).elim (g2 c) fun z => .inr (dead2 _ z)) sa3 (dead2 _ hT30) hT3 lc ld
theorem ok_addK {f : Addr} {fd : FuncData} (F : Fun K "add_known" "Ties.add_known" s_Ties_add_known f fd) (T : Blt mg) (Y : TxY K mg cT fT) (mAd : Meth K cT "add_tie" fAd) (GAD : FnOk P w K mg base CX0 6 fAd fdAd ["self", "first", "last", "total"] (spAdd cT cM cS)) (bAd : Binds K fdAd ["self", "first", "last", "total"] []) : FnOk P w K mg base CX0 7 f fd ["self", "known"] (spAddK cT cM cS) := by
  refine F.ok sc_Ties_add_known (fun vs H Q E h => ?_) (fun cdv A outer s H vs Q E hr h => ?_)
  · obtain ⟨t, m, dx, lt, lr, kn, ow, fs, L, LR, KL, us, ds, ks, KA, kl, R, rfl, _⟩ := h
    rfl
  · obtain ⟨t, m, dx, lt, lr, kn, ow, fs, L, LR, KL, us, ds, ks, KA, kl, R, rfl, ho, sa, mo, hc, st, hb, ln, fb, hkn, hKL, nk, nkl, q⟩ := h
    refine ⟨_, (pss_cons (ps_for PassesOwn.never rfl (pi_enum (by rfl) T.n_enumerate (pa_cons (pv 1) pa_nil)) (pg_tup rfl (pgs_cons (pg_name (i := 2) sc_Ties_add_known.nd rfl (Or.inl rfl)) (pgs_cons (pg_tup rfl (pgs_cons (pg_name (i := 3) sc_Ties_add_known.nd rfl (Or.inl rfl)) (pgs_cons (pg_name (i := 4) sc_Ties_add_known.nd rfl (Or.inl rfl)) (pgs_cons (pg_name (i := 5) sc_Ties_add_known.nd rfl (Or.inl rfl)) pgs_nil)))) pgs_nil))) 
        (pss_one (ps_if (pt_not (pt_val (pe_meth (pv 0) Y.cls mAd GAD (hr.mono (by decide)) bAd .nil pass0 (pa_cons (pv 3) (pa_cons (pe_op op_add (pv 3) (pv 4)) (pa_cons (pv 5) pa_nil)))))) 
          (pss_one (ps_ret (pv 2))) pss_nil)))
      (pss_one (ps_ret pe_non))), ?_⟩
    have ntk : kn ≠ t := fun z => by rw [z, ho.ht] at hkn; cases hkn
    have lk := hKL.1
    wtm_at "ev_go"
    refine rd_forE (xs := KL) (fun i σ' H' => ∃ (x2 x3 x4 x5 : Option V) (ow' : Addr → Prop) (lr' : Addr) (fs' : List (Str × V)) (L' LR' : List V) (ks' : List R3) (R' : List (List Int)), σ' = [some (.ref t), some (.ref kn), x2, x3, x4, x5] ∧ FrT t lt ow H H' ∧ (∀ c, ow' c → ow c ∨ H c = none) ∧ SumsAt cM cS H' m ow' us ds ∧
        TiesO cT H' t m ow' dx lt lr' fs' L' LR' ks' R' ∧ MatOk us ds ks' R' ∧ Cons us ds ks' ∧ Stand us ds ks' (KA ++ (kl.take i).map tieOf) ∧ TB ks' ∧ ks'.length ≤ ks.length + i)
      ⟨_, _, _, _, ow, lr, fs, L, LR, ks, R, rfl, .of (Same.refl _), fun c w => .inl w, sa, ho, mo, hc, by rw [List.take_zero, List.map_nil, List.append_nil]; exact st, hb, Nat.le_refl _⟩ ?_ ?_ ?_
    · rintro i σ' H' _ ⟨x2, x3, x4, x5, ow', lr', fs', L', LR', ks', R', rfl, fr, _⟩
      exact SqL.of (fr.1 _ _ hkn ntk nkl (.inl nk))
    · rintro i v σ' H' p hv ⟨x2, x3, x4, x5, ow', lr', fs', L', LR', ks', R', rfl, fr, gw, sa', ho', mo', hc', st', hb', ln'⟩ hp
      obtain ⟨a, k, rfl, ek, ha⟩ := hKL.2 i v hv
      have hi := (List.getElem?_eq_some_iff.mp ek).1
      obtain ⟨kb1, kb2⟩ := fb k (List.mem_of_getElem? ek)
      have ha1 := fr.1 _ _ ha (fun z => by rw [z, ho.ht] at ha; cases ha) (fun z => by rw [z, ho.hlt] at ha; cases ha) (.inr ⟨_, rfl⟩)
      have s1 : Same H' (upd H' p (.tup [.int i, .ref a])) := Same.new hp
      have hp1 : upd H' p (.tup [.int i, .ref a]) p = some (.tup [.int i, .ref a]) := upd_same
      generalize upd H' p (.tup [.int i, .ref a]) = H1 at s1 hp1
      have ho1 := ho'.same s1
      have sa1 : SumsAt cM cS H1 m ow' us ds := sa'.keep fun c o e _ => s1 _ _ e
      have free : ∀ {H2 : Hp}, FrT t lt ow H H2 → ∀ c, H2 c = none → H c = none := fun f2 c z => by
        cases e : H c with
        | none => rfl
        | some o => exact absurd z (f2.2 c (by rw [e]; intro z; cases z))
      have fr1 : FrT t lt ow H H1 := fr.trans (.of s1 : FrT t lt ow H' H1) fun c w => .inl w
      refine rd_gtup (SqT.of hp1) rfl ?_
      wtm_at "ev_go"
      refine ⟨t, dx, fs', rfl, ho1.ht, ho1.f4 _ (by decide +kernel), ?_⟩
      wtm_at "ev_go"
      refine ⟨t, m, dx, lt, lr', k.1, k.1 + k.2.1, k.2.2, ow', fs', L', LR', us, ds, ks', R', rfl, by omega, by omega, hb', ho1, sa1, mo', hc', fun H2 ow2 fr2 gw2 sa2 => ⟨fun bad => ?_, fun lr2 fs2 L2 LR2 ks2 R2 ho2 mo2 hc2 hcn how => ?_⟩⟩
      · have fr3 := fr1.trans fr2 gw
        have gw3 : ∀ c, ow2 c → ow c ∨ H c = none := fun c z => (gw2 c z).elim (gw c) fun z => .inr (free fr1 _ z)
        refine ⟨false, rfl, ?_⟩
        rw [if_pos (by decide)]
        wtm_at "ev_go"
        refine (q H2 ow2 fr3 gw3 sa2).1 i hi (st'.cons hc') fun z => bad (z.less fun x m => ?_)
        rw [List.take_add_one, ek, List.map_append, ← List.append_assoc]
        rcases List.mem_append.mp m with m | m
        · exact List.mem_append_left _ (st'.s x m)
        · exact List.mem_append_right _ m
      · have fr3 := fr1.trans fr2 gw
        have gw3 : ∀ c, ow2 c → ow c ∨ H c = none := fun c z => (gw2 c z).elim (gw c) fun z => .inr (free fr1 _ z)
        have etk : KA ++ (kl.take (i + 1)).map tieOf = (KA ++ (kl.take i).map tieOf) ++ [(k.1, k.1 + k.2.1, k.2.2)] := by rw [List.take_add_one, ek, List.map_append, ← List.append_assoc]; rfl
        have key : Stand us ds ks2 (KA ++ (kl.take (i + 1)).map tieOf) ∧ TB ks2 ∧ ks2.length ≤ ks.length + (i + 1) := by
          rw [etk]
          rcases how with ⟨rfl, l1, l2⟩ | rfl
          · exact ⟨st'.told hc' l1 l2, hb', by omega⟩
          · refine ⟨st'.add, ⟨by rw [List.length_append, List.length_singleton]; omega, fun x m => ?_⟩, by rw [List.length_append, List.length_singleton]; omega⟩
            rcases List.mem_append.mp m with m | m
            · exact hb'.2 x m
            · rw [List.mem_singleton.mp m]
              exact ⟨by show k.1.natAbs ≤ _; omega, by show (k.1 + k.2.1).natAbs ≤ _; omega⟩
        refine ⟨true, rfl, ?_⟩
        rw [if_neg (by decide)]
        wtm_at "ev_go"
        exact ⟨_, _, _, _, ow2, lr2, fs2, L2, LR2, ks2, R2, rfl, fr3, gw3, sa2, ho2, mo2, hc2, key.1, key.2.1, key.2.2⟩
    · rintro σ' H' ⟨x2, x3, x4, x5, ow', lr', fs', L', LR', ks', R', rfl, fr, gw, sa', ho', mo', hc', st', hb', ln'⟩
      rw [lk, List.take_length] at st'
      wtm_at "ev_go"
      exact (q H' ow' fr gw sa').2 lr' fs' L' LR' ks' R' ho' mo' hc' st' hb'
end
end

section
def spCkK : Sp := fun vs H Q _ => ∃ (kn : Addr) (KL : List V) (kl : List R3), vs = [.ref kn] ∧ H kn = some (.lst KL) ∧ R3L H KL kl ∧ (∀ k ∈ kl, 1 ≤ k.2.1) ∧ ∀ H', Same H H' → Q .non H'
def spTied (cT cM cS cC : Addr) : Sp := fun vs H Q E => ∃ (m kn : Addr) (ow : Addr → Prop) (KL : List V) (us ds : List (Int × Int)) (kl : List R3), vs = [.ref m, .ref kn] ∧ SumsAt cM cS H m ow us ds ∧ Cons us ds [] ∧ kl.length ≤ 900 ∧ FarB kl ∧ H kn = some (.lst KL) ∧ R3L H KL kl ∧ ¬ ow kn ∧
  (∀ (t dx lt lr : Addr) (fs : List (Str × V)) (L LR : List V) (ks : List R3) (R : List (List Int)) (H' : Hp) (ow' : Addr → Prop), FrO ow H H' → (∀ c, ow' c → ow c ∨ H c = none) → SumsAt cM cS H' m ow' us ds → H t = none → TiesO cT H' t m ow' dx lt lr fs L LR ks R → MatOk us ds ks R → Cons us ds ks → Stand us ds ks (kl.map tieOf) → TB ks → Q (.ref t) H') ∧
  ∀ (i : Nat) (H' : Hp) (ow' : Addr → Prop) (d : Addr), i < kl.length → Cons us ds ((kl.take i).map tieOf) → ¬ Cons us ds ((kl.take (i + 1)).map tieOf) → FrO ow H H' → (∀ c, ow' c → ow c ∨ H c = none) → SumsAt cM cS H' m ow' us ds → Raised H' d (.int i) → E (.ref cC) (some d) H'
theorem TiesO.new {cT t m dx lt lr : Addr} {H H2 : Hp} {ow : Addr → Prop} (d : ∀ c, ow c → H c ≠ none) (t0 : H t = none) (lt0 : H lt = none) (lr0 : H lr = none) (nn : lt ≠ lr) (h1 : H2 lt = some (.lst [])) (h2 : H2 lr = some (.lst [])) (h3 : H2 t = some (.ins cT dx (putF "_rows" (.ref lr) (putF "_ties" (.ref lt) (putF "_sums" (.ref m) []))))) : TiesO cT H2 t m ow dx lt lr (putF "_rows" (.ref lr) (putF "_ties" (.ref lt) (putF "_sums" (.ref m) []))) [] [] [] [] := by
  refine ⟨h3, ?_, ?_, lk_put0, fun k hk => ?_, h1, ⟨rfl, fun i v e => by cases e⟩, h2, ⟨rfl, fun i v e => by cases e⟩, fun z => d _ z t0, fun z => d _ z lt0, fun z => d _ z lr0, (fun a m => by cases m), Ne.symm nn, len_put' (len_put' (len_put' len_nil))⟩
  · rw [lk_put (by decide), lk_put (by decide)]; exact lk_put0
  · rw [lk_put (by decide)]; exact lk_put0
  · rw [lk_put (by rintro rfl; exact absurd hk (by decide +kernel)), lk_put (by rintro rfl; exact absurd hk (by decide +kernel)), lk_put (by rintro rfl; exact absurd hk (by decide +kernel))]
    rfl
/-- the sums of a book were asked: what stays of it -/
theorem AskB.asked3 {cB cM cS b l m : Addr} {H H2 H3 : Hp} {ow om om' : Addr → Prop} {lo hi : Int} {L : List V} {rs : List R3} {sm : Option (Addr × (Addr → Prop))} (ask : AskB cB cM cS H b ow lo hi L rs) (how : ∀ c, ow c ↔ ownB b l sm c) (f2 : FrO (ownB b l sm) H H2) (g2 : ∀ c, ownB b l (some (m, om)) c → ownB b l sm c ∨ H c = none)
    (bo1 : BookO cB cM cS H2 b l lo hi L rs (some (m, om))) (f3 : FrO om H2 H3) (g3 : ∀ c, om' c → om c ∨ H2 c = none) (sa3 : SumsAt cM cS H3 m om' (upS ((1, lo, hi) :: rs)) (dnS ((1, lo, hi) :: rs))) :
    FrO ow H H3 ∧ (∀ c, ownB b l (some (m, om')) c → ow c ∨ H c = none) ∧ AskB cB cM cS H3 b (ownB b l (some (m, om'))) lo hi L rs := by
  have bo3 := bo1.asked f3 g3 sa3
  refine ⟨⟨fun c o e w => f3.1 c o (f2.1 c o e (w.imp (fun h z => h ((how c).mpr z)) id)) (w.imp (fun h z => by
    rcases g2 c (.inr (.inr z)) with y | y
    · exact h ((how c).mpr y)
    · rw [e] at y
      cases y) id), fun c h => f3.2 c (f2.2 c h)⟩, fun c h => ?_, ⟨⟨l, some (m, om'), bo3, fun c => Iff.rfl⟩, ask.n, ask.l, ask.lo, ask.hi⟩⟩
  have up1 : ∀ c, ownB b l (some (m, om)) c → ow c ∨ H c = none := fun c h => (g2 c h).imp (fun h => (how c).mpr h) id
  rcases h with h | h | h
  · exact up1 c (.inl h)
  · exact up1 c (.inr (.inl h))
  · rcases g3 c h with h | h
    · exact up1 c (.inr (.inr h))
    · right
      cases z : H c with
      | none => rfl
      | some o => exact absurd h (f2.2 c (by rw [z]; intro y; cases y))
theorem cons_book {lo hi : Int} {rs : List R3} (rw_ : Rw ((1, lo, hi) :: rs)) : Cons (upS ((1, lo, hi) :: rs)) (dnS ((1, lo, hi) :: rs)) [] := fun x c w => by
  have w := Way.nil_iff.mp w
  rw [Int.sub_self] at w
  obtain ⟨M, W, hW, hM⟩ := rw_.share
  have := Rw.worth hW hM w
  rw [Int.mul_zero] at this
  exact Int.nonneg_of_mul_nonneg_left this hW
/-- the number of the first wrong one -/
def spFW (cB cM cS cT : Addr) : Sp := fun vs H Q _ => ∃ (b kn : Addr) (ow : Addr → Prop) (lo hi : Int) (L KL : List V) (rs kl : List R3), vs = [.ref b, .ref kn] ∧ AskB cB cM cS H b ow lo hi L rs ∧ NoConf ((1, lo, hi) :: rs) ∧ kl.length ≤ 900 ∧ FarB kl ∧ (∀ k ∈ kl, 1 ≤ k.2.1) ∧ H kn = some (.lst KL) ∧ R3L H KL kl ∧ ¬ ow kn ∧
  ∀ (H' : Hp) (ow' : Addr → Prop), FrO ow H H' → (∀ c, ow' c → ow c ∨ H c = none) → AskB cB cM cS H' b ow' lo hi L rs →
    (Cons (upS ((1, lo, hi) :: rs)) (dnS ((1, lo, hi) :: rs)) (kl.map tieOf) → Q .non H') ∧
    ∀ i : Nat, i < kl.length → Cons (upS ((1, lo, hi) :: rs)) (dnS ((1, lo, hi) :: rs)) ((kl.take i).map tieOf) → ¬ Cons (upS ((1, lo, hi) :: rs)) (dnS ((1, lo, hi) :: rs)) ((kl.take (i + 1)).map tieOf) → Q (.int i) H'
/-- what known sums make sure -/
def spSS (cB cM cS cT cC : Addr) : Sp := fun vs H Q E => ∃ (b kn : Addr) (x n : Int) (ow : Addr → Prop) (lo hi : Int) (L KL : List V) (rs kl : List R3), vs = [.ref b, .ref kn, .int x, .int n] ∧ AskB cB cM cS H b ow lo hi L rs ∧ NoConf ((1, lo, hi) :: rs) ∧ kl.length ≤ 900 ∧ FarB kl ∧ (∀ k ∈ kl, 1 ≤ k.2.1) ∧ H kn = some (.lst KL) ∧ R3L H KL kl ∧ ¬ ow kn ∧ x.natAbs ≤ 10 ^ 40 ∧ 0 ≤ n ∧ n ≤ 10 ^ 40 ∧
  (Cons (upS ((1, lo, hi) :: rs)) (dnS ((1, lo, hi) :: rs)) (kl.map tieOf) → ∀ (T : Addr) (c d : Int) (H' : Hp) (ow' : Addr → Prop), FrO ow H H' → (∀ c, ow' c → ow c ∨ H c = none) → AskB cB cM cS H' b ow' lo hi L rs → H T = none → H' T = some (.tup [.int (-d), .int c]) → LW (upS ((1, lo, hi) :: rs)) (dnS ((1, lo, hi) :: rs)) (kl.map tieOf) x (x + n) c → LW (upS ((1, lo, hi) :: rs)) (dnS ((1, lo, hi) :: rs)) (kl.map tieOf) (x + n) x d → Q (.ref T) H') ∧
  ∀ (i : Nat) (H' : Hp) (ow' : Addr → Prop) (e : Addr), i < kl.length → Cons (upS ((1, lo, hi) :: rs)) (dnS ((1, lo, hi) :: rs)) ((kl.take i).map tieOf) → ¬ Cons (upS ((1, lo, hi) :: rs)) (dnS ((1, lo, hi) :: rs)) ((kl.take (i + 1)).map tieOf) → FrO ow H H' → (∀ c, ow' c → ow c ∨ H c = none) → AskB cB cM cS H' b ow' lo hi L rs → Raised H' e (.int i) → E (.ref cC) (some e) H'
section
variable {P : Program} {w : World} {K : PySem.W.Frag} {mg : Str → Option Value} {base : Heap} {fI cD cR cB fB fN cW cL cI cC cT fT cM cS fSu fGr fLe fAk fSr : Addr}

theorem ok_ckK {f : Addr} {fd fdI : FuncData} (F : Fun K "check_known" "check_known" s_check_known f fd) (T : TxB K mg fI cD cR cB fB fN) (xI : ExT K mg "InvalidKnown" cI fI) (GI : FnOk P w K mg base CX0 1 fI fdI ["self", "value"] (spInit K)) (bI : Binds K fdI ["self", "value"] []) : FnOk P w K mg base (L2.CX P w) 3 f fd ["known"] spCkK := by
  refine F.okX sc_check_known (fun vs H Q E h => ?_) (fun cdv A outer s H vs Q E hr h => ?_)
  · obtain ⟨kn, KL, kl, rfl, _⟩ := h
    rfl
  · obtain ⟨kn, KL, kl, rfl, hkn, hKL, h1, q⟩ := h
    refine ⟨_, (pss_one (ps_for (passes_of rfl) rfl (pi_enum (by rfl) T.b.n_enumerate (pa_cons (pv 0) pa_nil)) (pg_tup rfl (pgs_cons (pg_name (i := 1) sc_check_known.nd rfl (Or.inl rfl)) (pgs_cons (pg_name (i := 2) sc_check_known.nd rfl (Or.inl rfl)) pgs_nil))) 
        (pss_one (ps_if (pw_or (pt_cmpR op_ne (pe_callB call_len_seq (by rfl) T.b.n_len PySem.boot_len (pa_cons (pv 2) pa_nil)) pe_int (nomark _)) (pw_or1 (pt_cmpR op_lt (pe_ix ix_tup (pv 2) pe_int (fun _ _ => rfl)) pe_int (nomark _)))).pt 
          (pss_one (ps_raise rfl (takes_of rfl rfl rfl rfl) (pmk_oex xI.c xI.i xI.t GI (hr.mono (by decide)) bI .nil pass0 (by rfl) xI.g (pa_cons (pv 1) pa_nil)))) pss_nil)))), ?_⟩
    wtm_at "ev_go"
    refine rd_forE (xs := KL) (fun i σ' H' => ∃ (x1 x2 : Option V), σ' = [some (.ref kn), x1, x2] ∧ Same H H') ⟨_, _, rfl, Same.refl _⟩ (fun i σ' H' _ h => by obtain ⟨_, _, _, z⟩ := h; exact SqL.of (z _ _ hkn)) ?_ ?_
    · rintro i v σ' H' p hv ⟨x1, x2, rfl, sm⟩ hp
      obtain ⟨a, k, rfl, ek, ha⟩ := hKL.2 i v hv
      have k1 := h1 k (List.mem_of_getElem? ek)
      have s1 : Same H' (upd H' p (.tup [.int i, .ref a])) := Same.new hp
      have hp1 : upd H' p (.tup [.int i, .ref a]) p = some (.tup [.int i, .ref a]) := upd_same
      generalize upd H' p (.tup [.int i, .ref a]) = H1 at s1 hp1
      have ha1 := s1 _ _ (sm _ _ ha)
      wtm_at "ev_go"
      rw [if_neg (by rw [decide_eq_true (show V.int (([V.int k.1, V.int k.2.1, V.int k.2.2] : List V).length : Int) = V.int 3 from rfl)]; decide)]
      wtm_at "ev_go"
      refine rd_ite (fun c => ?_) (fun c => ?_)
      · omega
      · wtm_at "ev_go"
        exact ⟨_, _, rfl, sm.trans s1⟩
    · rintro σ' H' ⟨x1, x2, rfl, sm⟩
      wtm_at "ev_go"
      exact q H' sm
theorem ok_tied {f : Addr} {fd fdI fdT fdA : FuncData} (F : Fun K "tied" "tied" s_tied f fd) (T : TxB K mg fI cD cR cB fB fN) (Y : TxY K mg cT fT) (xC : ExT K mg "Contradiction" cC fI) (GI : FnOk P w K mg base CX0 1 fI fdI ["self", "value"] (spInit K)) (bI : Binds K fdI ["self", "value"] [])
    (GTi : FnOk P w K mg base CX0 1 fT fdT ["self", "sums"] (spTI cT)) (bTi : Binds K fdT ["self", "sums"] []) (mAk : Meth K cT "add_known" fAk) (GAK : FnOk P w K mg base CX0 7 fAk fdA ["self", "known"] (spAddK cT cM cS)) (bAk : Binds K fdA ["self", "known"] []) : FnOk P w K mg base (L2.CX P w) 8 f fd ["sums", "known"] (spTied cT cM cS cC) := by
  refine F.okX sc_tied (fun vs H Q E h => ?_) (fun cdv A outer s H vs Q E hr h => ?_)
  · obtain ⟨m, kn, ow, KL, us, ds, kl, rfl, _⟩ := h
    rfl
  · obtain ⟨m, kn, ow, KL, us, ds, kl, rfl, sa, hc, ln, fb, hkn, hKL, nk, q1, q2⟩ := h
    refine ⟨_, (pss_cons (ps_set (i := 2) sc_tied.nd rfl (Or.inl rfl) (pe_make Y.mkT GTi (hr.mono (by decide)) (by rfl) Y.gT bTi .nil pass0 (pa_cons (pv 0) pa_nil)))
      (pss_cons (ps_set (i := 3) sc_tied.nd rfl (Or.inl rfl) (pe_meth (pv 2) Y.cls mAk GAK (hr.mono (by decide)) bAk .nil pass0 (pa_cons (pv 1) pa_nil)))
      (pss_cons (ps_if (pt_cmpR op_notN (pv 3) pe_non (nomark _)) 
        (pss_one (ps_raise rfl (takes_of rfl rfl rfl rfl) (pmk_oex xC.c xC.i xC.t GI (hr.mono (by decide)) bI .nil pass0 (by rfl) xC.g (pa_cons (pv 3) pa_nil)))) pss_nil)
      (pss_one (ps_ret (pv 2)))))), ?_⟩
    wtm_at "ev_go"
    intro t dx ht hdx ne
    have s1 : Same H (upd (upd H dx (.own t)) t (.ins cT dx [])) := (Same.new hdx).trans (Same.new (by rw [upd_ne (Ne.symm ne)]; exact ht))
    refine ⟨t, dx, m, rfl, upd_same, fun H2 lt lr hlt0 hlr0 nn hlt hlr ht2 fr2 => ⟨rfl, ?_⟩⟩
    have dead : ∀ c, upd (upd H dx (.own t)) t (.ins cT dx []) c = none → H c = none := fun c z => by
      cases e : H c with
      | none => rfl
      | some o => rw [s1 _ _ e] at z; cases z
    have s2 : Same H H2 := fun c o e => fr2 _ _ (s1 _ _ e) (fun z => by rw [z, ht] at e; cases e)
    have ho := TiesO.new (cT := cT) (m := m) (dx := dx) (ow := ow) (fun c z => sa.alive c z) ht (dead _ hlt0) (dead _ hlr0) nn hlt hlr ht2
    have sa2 : SumsAt cM cS H2 m ow us ds := sa.keep fun c o e _ => s2 _ _ e
    generalize putF "_rows" (.ref lr) (putF "_ties" (.ref lt) (putF "_sums" (.ref m) [])) = fs0 at ho ht2
    wtm_at "ev_go"
    refine ⟨t, dx, fs0, rfl, ht2, ho.f4 _ (by decide +kernel), ?_⟩
    wtm_at "ev_go"
    refine ⟨t, m, dx, lt, lr, kn, ow, fs0, [], [], KL, us, ds, [], [], kl, [], rfl, ho, sa2, MatOk.nil, hc, Stand.nil, ⟨by decide, fun k m => by cases m⟩, by rw [List.length_nil]; omega, fb, s2 _ _ hkn, hKL.keep fun c xs e => s2 _ _ e, nk, (fun z => by rw [z] at hkn; rw [dead _ hlt0] at hkn; cases hkn), fun H3 ow3 fr3 gw3 sa3 => ⟨fun i hi c1 c2 => ?_, fun lr' fs' L' LR' ks' R' ho' mo' hc' st' hb' => ?_⟩⟩
    · have fo : FrO ow H H3 := ⟨fun c o e w => fr3.1 c o (s2 _ _ e) (fun z => by rw [z, ht] at e; cases e) (fun z => by rw [z, dead _ hlt0] at e; cases e) w, fun c e => fr3.2 c ((FrO.of (ow := ow) s2).2 c e)⟩
      have gw : ∀ c, ow3 c → ow c ∨ H c = none := fun c z => (gw3 c z).imp id fun z => by
        cases e : H c with
        | none => rfl
        | some o => rw [s2 _ _ e] at z; cases z
      wtm_at "ev_go"
      rw [List.nil_append] at c1 c2
      refine ⟨trivial, true, by rw [decide_eq_false (fun z => by cases z)]; rfl, ?_⟩
      rw [if_pos rfl]
      wtm_at "ev_go"
      exact rd_mko xC (fun d H' s e => q2 i H' ow3 d hi c1 c2 (fo.trans (.of s) fun c w => .inl w) gw (sa3.keep fun c o e _ => s _ _ e) e)
    · have fo : FrO ow H H3 := ⟨fun c o e w => fr3.1 c o (s2 _ _ e) (fun z => by rw [z, ht] at e; cases e) (fun z => by rw [z, dead _ hlt0] at e; cases e) w, fun c e => fr3.2 c ((FrO.of (ow := ow) s2).2 c e)⟩
      have gw : ∀ c, ow3 c → ow c ∨ H c = none := fun c z => (gw3 c z).imp id fun z => by
        cases e : H c with
        | none => rfl
        | some o => rw [s2 _ _ e] at z; cases z
      rw [List.nil_append] at st'
      wtm_at "ev_go"
      refine ⟨trivial, false, by rw [decide_eq_true trivial]; rfl, ?_⟩
      rw [if_neg (by decide)]
      wtm_at "ev_go"
      exact q1 t dx lt lr' fs' L' LR' ks' R' H3 ow3 fo gw sa3 ht ho' mo' hc' st' hb'
theorem ok_first_wrong {f fR fK : Addr} {fd fdR fdK fdS fdT fdA : FuncData} (F : Fun K "first_wrong" "first_wrong" s_first_wrong f fd) (T : TxB K mg fI cD cR cB fB fN) (VV : TxV K cB cM fSu fGr fLe) (Y : TxY K mg cT fT) (GRo : CalX P w K mg base 3 "check_rows" fR fdR ["book"] (spRows cB cW)) (GCk : CalX P w K mg base 3 "check_known" fK fdK ["known"] spCkK)
    (GBS : FnOk P w K mg base CX0 5 fSu fdS ["self"] (spBS cB cM cS)) (bBS : Binds K fdS ["self"] []) (GTi : FnOk P w K mg base CX0 1 fT fdT ["self", "sums"] (spTI cT)) (bTi : Binds K fdT ["self", "sums"] []) (mAk : Meth K cT "add_known" fAk) (GAK : FnOk P w K mg base CX0 7 fAk fdA ["self", "known"] (spAddK cT cM cS)) (bAk : Binds K fdA ["self", "known"] []) : FnOk P w K mg base (L2.CX P w) 8 f fd ["book", "known"] (spFW cB cM cS cT) := by
  refine F.okX sc_first_wrong (fun vs H Q E h => ?_) (fun cdv A outer s H vs Q E hr h => ?_)
  · obtain ⟨b, kn, ow, lo, hi, L, KL, rs, kl, rfl, _⟩ := h
    rfl
  · obtain ⟨b, kn, ow, lo, hi, L, KL, rs, kl, rfl, ask, nc, ln, fb, k1, hkn, hKL, nk, q⟩ := h
    refine ⟨_, (pss_cons (ps_expr (pe_cX GRo hr (by decide) (passes_call (takes_of rfl rfl rfl rfl) (fun _ _ _ _ h => h)) (by rfl) (pa_cons (pv 0) pa_nil)))
      (pss_cons (ps_expr (pe_cX GCk hr (by decide) (passes_call (takes_of rfl rfl rfl rfl) (fun _ _ _ _ h => h)) (by rfl) (pa_cons (pv 1) pa_nil)))
      (pss_one (ps_ret (pe_meth (pe_make Y.mkT GTi (hr.mono (by decide)) (by rfl) Y.gT bTi .nil pass0 (pa_cons (pe_meth0 (pv 0) T.cls VV.mSu GBS (hr.mono (by decide)) bBS .nil pass0) pa_nil)) Y.cls mAk GAK (hr.mono (by decide)) bAk .nil pass0 (pa_cons (pv 1) pa_nil)))))), ?_⟩
    have rw_ : Rw ((1, lo, hi) :: rs) := ⟨fun r hr => (ask.n.b r hr).1, nc, lo, hi, rs, rfl⟩
    wtm_at "ev_go"
    refine ⟨b, lo, hi, L, rs, rfl, ask.s.at_, fun _ => ?_, fun p i j _ fc => absurd nc fc.not⟩
    wtm_at "ev_go"
    refine ⟨kn, KL, kl, rfl, hkn, hKL, k1, fun H1 s1 => ?_⟩
    have ask1 := ask.keepA (fun c o e _ => s1 _ _ e)
    obtain ⟨l, sm, bo, how⟩ := ask1.s
    have bo0 := bo
    obtain ⟨dx, fs, v, hb, hl_, l1, l2, l3, l4, cv, hR, lm, lf, sn, ss⟩ := bo
    wtm_at "ev_go"
    refine ⟨b, dx, fs, rfl, hb, lm _ (by decide +kernel), ?_⟩
    wtm_at "ev_go"
    refine ⟨b, l, lo, hi, L, rs, sm, rfl, bo0, nc, ask.n, ask.l, ask.lo, ask.hi, fun m om H2 f2 g2 bo1 => ?_⟩
    have bo2 := bo1
    obtain ⟨dx2, fs2, v2, hb2, hl2, m1, m2, m3, m4, cv2, hR2, lm2, lf2, sn2, ss2⟩ := bo1
    obtain ⟨a1, sa, a3, a4⟩ := ss2 m om rfl
    have nk1 : ¬ ownB b l sm kn := fun z => nk ((how kn).mpr z)
    have hkn2 := f2.1 _ _ (s1 _ _ hkn) (.inl nk1)
    have hKL2 : R3L H2 KL kl := hKL.keep fun c xs e => f2.1 _ _ (s1 _ _ e) (.inr ⟨_, rfl⟩)
    have nk2 : ¬ om kn := fun z => by
      rcases g2 kn (.inr (.inr z)) with z | z
      · exact nk1 z
      · rw [s1 _ _ hkn] at z; cases z
    have back : ∀ {H3 : Hp} {om' : Addr → Prop}, FrO om H2 H3 → (∀ c, om' c → om c ∨ H2 c = none) → SumsAt cM cS H3 m om' (upS ((1, lo, hi) :: rs)) (dnS ((1, lo, hi) :: rs)) → FrO ow H H3 ∧ (∀ c, ownB b l (some (m, om')) c → ow c ∨ H c = none) ∧ AskB cB cM cS H3 b (ownB b l (some (m, om'))) lo hi L rs := fun f3 g3 sa3 => by
      obtain ⟨F, G, A3⟩ := ask1.asked3 how f2 g2 bo2 f3 g3 sa3
      exact ⟨(FrO.of (ow := ow) s1).trans F fun c w => .inl w, fun c z => (G c z).imp id fun z => s1.free z, A3⟩
    wtm_at "ev_go"
    intro t dxt ht hdx ne
    have s3 : Same H2 (upd (upd H2 dxt (.own t)) t (.ins cT dxt [])) := (Same.new hdx).trans (Same.new (by rw [upd_ne (Ne.symm ne)]; exact ht))
    refine ⟨t, dxt, m, rfl, upd_same, fun H3 lt lr hlt0 hlr0 nn hlt hlr ht2 fr2 => ⟨rfl, ?_⟩⟩
    have dead : ∀ c, upd (upd H2 dxt (.own t)) t (.ins cT dxt []) c = none → H2 c = none := fun c z => by
      cases e : H2 c with
      | none => rfl
      | some o => rw [s3 _ _ e] at z; cases z
    have s4 : Same H2 H3 := fun c o e => fr2 _ _ (s3 _ _ e) (fun z => by rw [z, ht] at e; cases e)
    have ho := TiesO.new (cT := cT) (m := m) (dx := dxt) (ow := om) (fun c z => sa.alive c z) ht (dead _ hlt0) (dead _ hlr0) nn hlt hlr ht2
    have sa3 : SumsAt cM cS H3 m om (upS ((1, lo, hi) :: rs)) (dnS ((1, lo, hi) :: rs)) := sa.keep fun c o e _ => s4 _ _ e
    generalize putF "_rows" (.ref lr) (putF "_ties" (.ref lt) (putF "_sums" (.ref m) [])) = fs0 at ho ht2
    refine ⟨t, dxt, fs0, rfl, ht2, ho.f4 _ (by decide +kernel), ?_⟩
    wtm_at "ev_go"
    refine ⟨t, m, dxt, lt, lr, kn, om, fs0, [], [], KL, _, _, [], [], kl, [], rfl, ho, sa3, MatOk.nil, cons_book rw_, Stand.nil, ⟨by decide, fun k m => by cases m⟩, by rw [List.length_nil]; omega, fb, s4 _ _ hkn2, hKL2.keep fun c xs e => s4 _ _ e, nk2, (fun z => by rw [z] at hkn2; rw [dead _ hlt0] at hkn2; cases hkn2), fun H4 om4 fr4 gw4 sa4 => ?_⟩
    have fo : FrO om H2 H4 := ⟨fun c o e w => fr4.1 c o (s4 _ _ e) (fun z => by rw [z, ht] at e; cases e) (fun z => by rw [z, dead _ hlt0] at e; cases e) w, fun c e => fr4.2 c ((FrO.of (ow := om) s4).2 c e)⟩
    have gw : ∀ c, om4 c → om c ∨ H2 c = none := fun c z => (gw4 c z).imp id fun z => by
      cases e : H2 c with
      | none => rfl
      | some o => rw [s4 _ _ e] at z; cases z
    obtain ⟨F, G, A3⟩ := back fo gw sa4
    refine ⟨fun i hi c1 c2 => ?_, fun lr' fs' L' LR' ks' R' ho' mo' hc' st' hb' => ?_⟩
    · rw [List.nil_append] at c1 c2
      exact (q H4 _ F G A3).2 i hi c1 c2
    · rw [List.nil_append] at st'
      exact (q H4 _ F G A3).1 (st'.cons hc')
theorem ok_sure_sums {f fR fK fD fLn : Addr} {fd fdR fdK fdD fdL fdS fdU : FuncData} (F : Fun K "sure_sums" "sure_sums" s_sure_sums f fd) (T : TxB K mg fI cD cR cB fB fN) (VV : TxV K cB cM fSu fGr fLe) (Y : TxY K mg cT fT) (GRo : CalX P w K mg base 3 "check_rows" fR fdR ["book"] (spRows cB cW)) (GCk : CalX P w K mg base 3 "check_known" fK fdK ["known"] spCkK)
    (GBS : FnOk P w K mg base CX0 5 fSu fdS ["self"] (spBS cB cM cS)) (bBS : Binds K fdS ["self"] []) (GTd : CalX P w K mg base 8 "tied" fD fdD ["sums", "known"] (spTied cT cM cS cC)) (GLe : CalX P w K mg base 3 "check_length" fLn fdL ["length"] (spLenOf cL)) (mSu : Meth K cT "sure" fSr) (GSU : FnOk P w K mg base CX0 6 fSr fdU ["self", "first", "last"] (spSure cT cM cS)) (bSu : Binds K fdU ["self", "first", "last"] []) : FnOk P w K mg base (L2.CX P w) 9 f fd ["book", "known", "begin", "length"] (spSS cB cM cS cT cC) := by
  refine F.okX sc_sure_sums (fun vs H Q E h => ?_) (fun cdv A outer s H vs Q E hr h => ?_)
  · obtain ⟨b, kn, x, n, ow, lo, hi, L, KL, rs, kl, rfl, _⟩ := h
    rfl
  · obtain ⟨b, kn, x, n, ow, lo, hi, L, KL, rs, kl, rfl, ask, nc, ln, fb, k1, hkn, hKL, nk, bx, n0, n9, q, qe⟩ := h
    refine ⟨_, (pss_cons (ps_expr (pe_cX GRo hr (by decide) (passes_call (takes_of rfl rfl rfl rfl) (fun _ _ _ _ h => h)) (by rfl) (pa_cons (pv 0) pa_nil)))
      (pss_cons (ps_expr (pe_cX GCk hr (by decide) (passes_call (takes_of rfl rfl rfl rfl) (fun _ _ _ _ h => h)) (by rfl) (pa_cons (pv 1) pa_nil)))
      (pss_cons (ps_set (i := 4) sc_sure_sums.nd rfl (Or.inl rfl) (pe_cX GTd hr (by decide) (passes_call (takes_of rfl rfl rfl rfl) (fun _ _ _ _ h => h)) (by rfl) (pa_cons (pe_meth0 (pv 0) T.cls VV.mSu GBS (hr.mono (by decide)) bBS .nil pass0) (pa_cons (pv 1) pa_nil))))
      (pss_cons (ps_expr (pe_cX GLe hr (by decide) (passes_call (takes_of rfl rfl rfl rfl) (fun _ _ _ _ h => h)) (by rfl) (pa_cons (pv 3) pa_nil)))
      (pss_one (ps_ret (pe_meth (pv 4) Y.cls mSu GSU (hr.mono (by decide)) bSu .nil pass0 (pa_cons (pv 2) (pa_cons (pe_op op_add (pv 2) (pv 3)) pa_nil))))))))), ?_⟩
    have rw_ : Rw ((1, lo, hi) :: rs) := ⟨fun r hr => (ask.n.b r hr).1, nc, lo, hi, rs, rfl⟩
    wtm_at "ev_go"
    refine ⟨b, lo, hi, L, rs, rfl, ask.s.at_, fun _ => ?_, fun p i j _ fc => absurd nc fc.not⟩
    wtm_at "ev_go"
    refine ⟨kn, KL, kl, rfl, hkn, hKL, k1, fun H1 s1 => ?_⟩
    have ask1 := ask.keepA (fun c o e _ => s1 _ _ e)
    obtain ⟨l, sm, bo, how⟩ := ask1.s
    have bo0 := bo
    obtain ⟨dx, fs, v, hb, hl_, l1, l2, l3, l4, cv, hR, lm, lf, sn, ss⟩ := bo
    wtm_at "ev_go"
    refine ⟨b, dx, fs, rfl, hb, lm _ (by decide +kernel), ?_⟩
    wtm_at "ev_go"
    refine ⟨b, l, lo, hi, L, rs, sm, rfl, bo0, nc, ask.n, ask.l, ask.lo, ask.hi, fun m om H2 f2 g2 bo1 => ?_⟩
    have bo2 := bo1
    obtain ⟨dx2, fs2, v2, hb2, hl2, m1, m2, m3, m4, cv2, hR2, lm2, lf2, sn2, ss2⟩ := bo1
    obtain ⟨a1, sa, a3, a4⟩ := ss2 m om rfl
    have nk1 : ¬ ownB b l sm kn := fun z => nk ((how kn).mpr z)
    have hkn2 := f2.1 _ _ (s1 _ _ hkn) (.inl nk1)
    have hKL2 : R3L H2 KL kl := hKL.keep fun c xs e => f2.1 _ _ (s1 _ _ e) (.inr ⟨_, rfl⟩)
    have nk2 : ¬ om kn := fun z => by
      rcases g2 kn (.inr (.inr z)) with z | z
      · exact nk1 z
      · rw [s1 _ _ hkn] at z; cases z
    have back : ∀ {H3 : Hp} {om' : Addr → Prop}, FrO om H2 H3 → (∀ c, om' c → om c ∨ H2 c = none) → SumsAt cM cS H3 m om' (upS ((1, lo, hi) :: rs)) (dnS ((1, lo, hi) :: rs)) → FrO ow H H3 ∧ (∀ c, ownB b l (some (m, om')) c → ow c ∨ H c = none) ∧ AskB cB cM cS H3 b (ownB b l (some (m, om'))) lo hi L rs := fun f3 g3 sa3 => by
      obtain ⟨F, G, A3⟩ := ask1.asked3 how f2 g2 bo2 f3 g3 sa3
      exact ⟨(FrO.of (ow := ow) s1).trans F fun c w => .inl w, fun c z => (G c z).imp id fun z => s1.free z, A3⟩
    wtm_at "ev_go"
    refine ⟨m, kn, om, KL, _, _, kl, rfl, sa, cons_book rw_, ln, fb, hkn2, hKL2, nk2, fun t dxt lt lr fs3 L3 LR3 ks R H3 om3 f3 g3 sa3 ht0 ho mo hcs st hb => ?_, fun i H' ow' d hi c1 c2 f3 g3 sa3 rd => ?_⟩
    · wtm_at "ev_go"
      refine ⟨n, rfl, fun _ => ?_, fun z => by omega⟩
      wtm_at "ev_go"
      refine ⟨t, dxt, fs3, rfl, ho.ht, ho.f4 _ (by decide +kernel), ?_⟩
      wtm_at "ev_go"
      refine ⟨t, m, dxt, lt, lr, x, x + n, om3, fs3, L3, LR3, _, _, ks, R, rfl, by omega, by omega, hb, ho, sa3, mo, fun T c d H4 om4 f4 g4 sa4 hT0 hT lc ld => ?_⟩
      have fo := f3.trans f4 g3
      have gw : ∀ c, om4 c → om c ∨ H2 c = none := fun c z => (g4 c z).elim (g3 c) fun z => .inr (by
        cases e : H2 c with
        | none => rfl
        | some o => exact absurd z (f3.2 c (by rw [e]; intro z; cases z)))
      obtain ⟨F, G, A3⟩ := back fo gw sa4
      refine q (st.cons hcs) T c d H4 _ F G A3 ?_ hT (st.lw lc) (st.lw ld)
      cases e : H T with
      | none => rfl
      | some o => exact absurd hT0 (f3.2 T (f2.2 T (by rw [s1 _ _ e]; intro z; cases z)))
    · obtain ⟨F, G, A3⟩ := back f3 g3 sa3
      exact qe i H' _ d hi c1 c2 F G A3 rd
end
end

end
end
end
end
end
end
end
end
end
end
end
end
end
end
section
local macro_rules | `(tactic| wtm_at "ev_lk") => `(tactic| first | assumption | with_reducible exact upd_same | (refine lk_new' (by assumption) ?_; wtm_at "ev_lk") | (refine lk_ne (by wtm_at "ev_ne") ?_; wtm_at "ev_lk") | (refine same_lk (by assumption) ?_; wtm_at "ev_lk"))
section
local macro_rules | `(tactic| wtm_at "ev_sm") => `(tactic| first | assumption | exact Same.refl _ | (refine same_new ?_ (by assumption); wtm_at "ev_sm") | (refine Same.trans ?_ (by assumption); wtm_at "ev_sm"))
section
local macro_rules | `(tactic| wtm_at "ev_no") => `(tactic| first | assumption | exact no_back (by assumption) | (refine no_new ?_ (by wtm_at "ev_ne"); wtm_at "ev_no"))
section
local macro_rules | `(tactic| wtm_at "ev_sq") => `(tactic| first | assumption | exact SqT.of (by assumption) | exact SqL.of (by assumption) | exact SqL.of (by wtm_at "ev_lk") | exact SqT.of (by wtm_at "ev_lk"))
section
local macro_rules | `(tactic| wtm_at "ev_step") => `(tactic| with_reducible first
  | refine rd_seq ?_ | refine rd_next ?_ | refine rd_ret ?_ | refine rd_retN ?_ | refine rd_if ?_ | refine rd_drop ?_ | refine rd_asg ?_ | refine rd_name ?_ | refine rd_gsub ?_ | refine rd_gnil ?_ | refine rd_gcons ?_
  | refine rd_c ?_ | refine rd_op ?_ | refine rd_un ?_ | refine rd_rI0 ?_ | refine rd_rU ?_ | refine rd_tup ?_ | refine rd_lst ?_ | refine rd_nil ?_ | refine rd_cons ?_ | refine rd_cb ?_ | refine rd_call ?_ | refine rd_sl ?_ | refine rd_no ?_ | refine rd_part ?_
  | refine rd_test ?_ | refine rd_tB ?_ | refine rd_not ?_ | refine rd_and ?_ | refine rd_or ?_ | refine rd_notV ?_ | refine rd_andV ?_ | refine rd_orV ?_ | refine rd_ifE ?_ | refine rd_bl ?_ | refine rd_ex ?_
  | refine rd_rng1 ?_ | refine rd_overL ?_ | refine rd_overT ?_ | refine rd_forA ?_ | refine rd_forB ?_ | refine rd_forC ?_ | refine rd_lcA ?_ | refine rd_lcB ?_ | refine rd_lcC ?_ | refine rd_bm ?_ | refine rd_mkv ?_ | refine rd_xv ?_
  | refine rd_T ?_ | refine rd_F ?_ | refine rd_True ?_ | refine rd_False ?_ | refine rd_int ?_ | refine rd_intB ?_ | refine rd_one ?_ | refine rd_two ?_)
section
local macro_rules | `(tactic| wtm_at "ev_cond") => `(tactic| first | assumption | exact (show (0 : Int) < _ by decide) | exact (show (0 : Int) < _ by omega) | exact Or.inl ⟨by decide, by decide⟩ | exact Or.inr ⟨by decide, by decide⟩ | exact pow_cond (by decide) (by decide) (by first | decide | omega) (by first | decide | omega) | exact wide_div (b := 2000) (by first | assumption | decide | omega) (by first | decide | omega) (by decide) (by decide))
section
local macro_rules | `(tactic| wtm_at "ev_side") => `(tactic| first
  | ((with_reducible apply rd_var); exact rfl)
  | ((with_reducible apply rd_ixL); (wtm_at "ev_sq"); exact rfl)
  | ((with_reducible apply rd_ixT); (wtm_at "ev_sq"); exact rfl)
  | ((with_reducible apply rd_eq); exact rfl)
  | ((with_reducible apply rd_ne); exact rfl)
  | ((with_reducible apply rd_setL); (wtm_at "ev_lk"); exact rfl)
  | ((with_reducible apply rd_gtup); (wtm_at "ev_sq"); exact rfl)
  | ((with_reducible apply rd_len); (wtm_at "ev_sq"))
  | ((with_reducible apply rd_lenT); (wtm_at "ev_sq"))
  | ((with_reducible apply rd_rg); (first | decide | omega); (first | decide | omega))
  | ((with_reducible apply rd_atL); (wtm_at "ev_sq"))
  | ((with_reducible apply rd_atT); (wtm_at "ev_sq"))
  | ((with_reducible apply rd_tyL); (wtm_at "ev_sq"))
  | ((with_reducible apply rd_cat); (wtm_at "ev_lk"); (wtm_at "ev_lk"); exact Nat.le_of_ble_eq_true rfl)
  | ((with_reducible apply rd_size); exact Nat.le_of_ble_eq_true rfl)
  | ((with_reducible apply rd_rI); wtm_at "ev_cond"))
section
local macro_rules | `(tactic| wtm_at "ev_rd") => `(tactic| repeat (first | wtm_at "ev_step" | wtm_at "ev_side"))
section
local macro_rules | `(tactic| wtm_at "ev_go") => `(tactic| ((try simp only [L2.start, List.map_cons, List.map_nil, List.length_cons, List.length_nil, Nat.reduceAdd, Nat.reduceSub, List.replicate_succ, List.replicate_zero, List.cons_append, List.nil_append]); wtm_at "ev_rd"; (try simp only [List.set_cons_zero, List.set_cons_succ, upd_upd])))
section
local macro_rules | `(tactic| wtm_at "ev_step") => `(tactic| with_reducible first | refine rd_par ?_ | refine rd_par2 ?_ | refine rd_forD ?_)
section
local macro_rules | `(tactic| wtm_at "ev_side") => `(tactic| ((with_reducible apply rd_enumL); (wtm_at "ev_sq")))
section
local macro_rules | `(tactic| wtm_at "ev_cond") => `(tactic| exact Num.mul (by assumption) (by assumption))
section
local macro_rules | `(tactic| wtm_at "ev_step") => `(tactic| with_reducible first | refine rd_fld ?_ | refine rd_sfld ?_ | refine rd_tmko ?_ | refine rd_meth0 ?_ | refine rd_make ?_ | refine rd_prop ?_ | refine rd_callK0 ?_)
section
local macro_rules | `(tactic| wtm_at "ev_step") => `(tactic| with_reducible first | refine rd_truL ?_ | refine rd_cb1 ?_)
section
local macro_rules | `(tactic| wtm_at "ev_step") => `(tactic| with_reducible first | refine rd_par ?_ | refine rd_par2 ?_ | refine rd_rng2 ?_ | refine rd_forF ?_ | refine rd_revR ?_ | refine rd_iRev ?_ | refine rd_rg1 ?_)
section
theorem Shared.fine {lo hi : Int} {rs : List R3} {wd : Int} (h : Shared lo hi rs) (g : Within wd rs) : Fine rs := fun j r e => by
  obtain ⟨o, u, hu, _, _, a⟩ := h
  have hm := List.mem_of_getElem? e
  obtain ⟨b1, b2⟩ := a r hm
  have : r.2.1 ≤ r.2.2 := Int.le_of_mul_le_mul_right (Int.le_trans b1 b2) hu
  unfold okR
  rw [decide_eq_true (g r hm).1, decide_eq_true this]
  rfl
/-- the kind at k: a low, a high and a list of rules -/
def KindAt (H : Hp) (k : Addr) (lo hi : Int) (rs : List R3) : Prop := ∃ (l : Addr) (R : List V), H k = some (.tup [.int lo, .int hi, .ref l]) ∧ H l = some (.lst R) ∧ RlR H R rs ∧ R.length ≤ 100 ∧ lo.natAbs ≤ 1000 ∧ hi.natAbs ≤ 1000
theorem KindAt.mono {H H' : Hp} {k : Addr} {lo hi : Int} {rs : List R3} (h : KindAt H k lo hi rs) (s : Same H H') : KindAt H' k lo hi rs := by
  obtain ⟨l, R, h1, h2, h3, h4⟩ := h
  exact ⟨l, R, s _ _ h1, s _ _ h2, h3.mono s, h4⟩

section
variable {P : Program} {w : World} {K : PySem.W.Frag} {mg : Str → Option Value} {base : Heap}
end
def spMade (C : Addr) : Sp := fun vs H Q _ => ∃ (k l : Addr) (lo hi : Int) (R : List V) (rs : List R3), vs = [.ref k] ∧ H k = some (.tup [.int lo, .int hi, .ref l]) ∧ H l = some (.lst R) ∧ RlR H R rs ∧ R.length ≤ 1000 ∧ Num lo ∧ Num hi ∧ lo ≤ hi ∧ Fine rs ∧
  ∀ (a l' : Addr) (H' : Hp), Same H H' → H a = none → H l' = none → BookN C H' a l' lo hi R rs → Q (.ref a) H'
section
variable {P : Program} {w : World} {K : PySem.W.Frag} {mg : Str → Option Value} {base : Heap} {fI cD cR cB fB fN cW cL : Addr}
theorem ok_made {f : Addr} {fd fdN : FuncData} (F : Fun K "_law_made" "_law_made" s_made f fd) (T : TxB K mg fI cD cR cB fB fN) (GN : FnOk P w K mg base (L2.CX P w) 4 fN fdN ["self", "low", "high", "rules"] (spBook cB cD cR)) (bN : Binds K fdN ["self", "low", "high", "rules"] []) : FnOk P w K mg base CX0 6 f fd ["kind"] (spMade cB) := by
  refine F.ok sc_made (fun vs H Q E h => ?_) (fun cdv A outer s H vs Q E hr h => ?_)
  · obtain ⟨k, l, lo, hi, R, rs, rfl, _⟩ := h
    rfl
  · obtain ⟨k, l, lo, hi, R, rs, rfl, hk, hl, hR, hle, nlo, nhi, lohi, fine, q⟩ := h
    refine ⟨_, (pss_one (ps_ret (pe_make T.mB2 GN (hr.mono (by decide)) (by rfl) T.gB bN .nil L2.passL (pa_cons (pe_ix ix_tup (pv 0) pe_int (fun _ _ => rfl)) (pa_cons (pe_ix ix_tup (pv 0) pe_int (fun _ _ => rfl)) (pa_cons (pe_callTy call_list_of (by rfl) T.b.n_list boot_list (pa_cons (pe_ix ix_tup (pv 0) pe_int (fun _ _ => rfl)) pa_nil)) pa_nil)))))), ?_⟩
    wtm_at "ev_go"
    intro c hc
    wtm_at "ev_go"
    have sC : Same H (upd H c (.lst R)) := Same.new hc
    exact book_okN upd_same (hR.mono sC) hle nlo nhi lohi fine (fun a l' H' s na nl bk => q a l' H' (sC.trans s) (sC.free na) (sC.free nl) bk)
end

section
variable {K : PySem.W.Frag} {σ : L2.St} {H : Hp} {D : Ends}
theorem rd_par3 {i j l : Nat} {ta : TA} (h : ta σ H fun vs H1 => ∃ u v w, vs = [u, v, w] ∧ D.nx (((σ.set i (some u)).set j (some v)).set l (some w)) H1) : tPar3 i j l ta D σ H := h
theorem rd_chain {r r' : R2} {ta tb tc : TE} {Q : VK} (h : ta σ H fun x H1 => tb σ H1 fun y H2 => r x y H2 fun z H3 => ∃ k, z = .bl k ∧ (if k = true then tc σ H3 fun w' H4 => r' y w' H4 Q else Q (.bl false) H3)) : tChain r r' ta tb tc σ H Q := h
end
theorem num_big {i : Int} (h : i.natAbs < 10 ^ 40) : Num i := Nat.lt_trans h (by decide +kernel)
/-- a kind that stays: its list is neither the pool nor owned -/
def KindO (p : Addr) (H : Hp) (ow : Addr → Prop) (k : Addr) (lo hi : Int) (rs : List R3) : Prop := ∃ (l : Addr) (R : List V), H k = some (.tup [.int lo, .int hi, .ref l]) ∧ H l = some (.lst R) ∧ RlR H R rs ∧ l ≠ p ∧ ¬ ow l
theorem KindO.go {p k : Addr} {H H' : Hp} {ow ow' : Addr → Prop} {lo hi : Int} {rs : List R3} (h : KindO p H ow k lo hi rs) (g : Go p H ow H' ow') : KindO p H' ow' k lo hi rs := by
  obtain ⟨l, R, h1, h2, h3, h4, h5⟩ := h
  obtain ⟨e, n⟩ := g.keep h2 h4 h5
  exact ⟨l, R, g.t _ _ h1, e, g.rlr h3, h4, n⟩
theorem KindO.at_ {p k : Addr} {H : Hp} {ow : Addr → Prop} {lo hi : Int} {rs : List R3} (h : KindO p H ow k lo hi rs) (l : rs.length ≤ 100) (c1 : lo.natAbs ≤ 1000) (c2 : hi.natAbs ≤ 1000) : KindAt H k lo hi rs := by
  obtain ⟨l', R, h1, h2, h3, h4, h5⟩ := h
  exact ⟨l', R, h1, h2, h3, by rw [h3.1]; exact l, c1, c2⟩
def spWidth (cL : Addr) : Sp := fun vs H Q E => ∃ n : Int, vs = [.int n] ∧ (1 ≤ n → Q .non H) ∧ (n < 1 → ∀ (d : Addr) (H' : Hp), Same H H' → Raised H' d (.int n) → E (.ref cL) (some d) H')
section
variable {P : Program} {w : World} {K : PySem.W.Frag} {mg : Str → Option Value} {base : Heap} {fI cD cR cB fB fN cW cL : Addr}
theorem ok_width {f : Addr} {fd fdI : FuncData} (F : Fun K "check_width" "check_width" s_check_width f fd) (xL : ExT K mg "InvalidLength" cL fI) (GI : FnOk P w K mg base CX0 1 fI fdI ["self", "value"] (spInit K)) (bI : Binds K fdI ["self", "value"] []) : FnOk P w K mg base (L2.CX P w) 3 f fd ["width"] (spWidth cL) := by
  refine F.okX sc_check_width (fun vs H Q E h => ?_) (fun cdv A outer s H vs Q E hr h => ?_)
  · obtain ⟨n, rfl, _⟩ := h
    rfl
  · obtain ⟨n, rfl, q1, q2⟩ := h
    refine ⟨_, (pss_one (ps_if (pt_cmpR op_lt (pv 0) pe_int (nomark _)) 
        (pss_one (ps_raise rfl (takes_of rfl rfl rfl rfl) (pmk_oex xL.c xL.i xL.t GI (hr.mono (by decide)) bI .nil pass0 (by rfl) xL.g (pa_cons (pv 0) pa_nil)))) pss_nil)), ?_⟩
    wtm_at "ev_go"
    refine rd_ite (fun c => ?_) (fun c => ?_)
    · wtm_at "ev_go"
      exact rd_mko xL (fun d H' s e => q2 c d H' s e)
    · wtm_at "ev_go"
      exact q1 (by omega)
end

/-- the widths and numbers of a book as the program reckons with them -/
structure Nums (lo hi : Int) (R : List V) (rs : List R3) : Prop where
  l : R.length ≤ 1000
  a : Num lo
  b : Num hi
  w : Wide1 ((1, lo, hi) :: rs)
def spStr (C cW cL : Addr) (g : Int → Int → List R3 → Int → Int) : Sp := fun vs H Q E => ∃ (a : Addr) (lo hi n : Int) (R : List V) (rs : List R3), vs = [.ref a, .int n] ∧ BookAt C H a lo hi R rs ∧ Nums lo hi R rs ∧ Num n ∧
  (NoConf ((1, lo, hi) :: rs) → 1 ≤ n → ∀ H', Same H H' → Q (.int (g lo hi rs n)) H') ∧
  (NoConf ((1, lo, hi) :: rs) → n < 1 → ∀ (d : Addr) (H' : Hp), Same H H' → Raised H' d (.int n) → E (.ref cL) (some d) H') ∧
  ∀ (p : Addr) (i j : Nat), H p = some (.tup [.int i, .int j]) → FirstConf ((1, lo, hi) :: rs) i j → ∀ (d : Addr) (H' : Hp), Same H H' → Raised H' d (.ref p) → E (.ref cW) (some d) H'
def strL (lo hi : Int) (rs : List R3) (n : Int) : Int := (lowM (1, lo, hi) rs).1 * n / (lowM (1, lo, hi) rs).2
def strM (lo hi : Int) (rs : List R3) (n : Int) : Int := -(-(highM (1, lo, hi) rs).1 * n / (highM (1, lo, hi) rs).2)
section
variable {P : Program} {w : World} {K : PySem.W.Frag} {mg : Str → Option Value} {base : Heap} {fI cD cR cB fB fN cW cL : Addr}
theorem ok_sleast {f fR fW : Addr} {fd fdR fdW fdB : FuncData} (F : Fun K "strictest_least" "strictest_least" s_strictest_least f fd) (T : TxB K mg fI cD cR cB fB fN) (GRo : CalX P w K mg base 3 "check_rows" fR fdR ["book"] (spRows cB cW)) (GWi : CalX P w K mg base 3 "check_width" fW fdW ["width"] (spWidth cL)) (GL : CalN P w K mg base 1 "lowest_most" (spLow K))
    (GB : FnOk P w K mg base CX0 1 fB fdB ["self"] (spBnd cB)) (bB : Binds K fdB ["self"] []) : FnOk P w K mg base (L2.CX P w) 4 f fd ["book", "width"] (spStr cB cW cL strL) := by
  refine F.okX sc_strictest_least (fun vs H Q E h => ?_) (fun cdv A outer s H vs Q E hr h => ?_)
  · obtain ⟨a, lo, hi, n, R, rs, rfl, _⟩ := h
    rfl
  · obtain ⟨a, lo, hi, n, R, rs, rfl, bk, nu, nn, q1, q2, q3⟩ := h
    obtain ⟨dx, l, fs, v, ha, hl, l1, l2, l3, l4, cv, hR, l5⟩ := id bk
    refine ⟨_, (pss_cons (ps_expr (pe_cX GRo hr (by decide) (passes_call (takes_of rfl rfl rfl rfl) (fun _ _ _ _ h => h)) (by rfl) (pa_cons (pv 0) pa_nil)))
      (pss_cons (ps_expr (pe_cX GWi hr (by decide) (passes_call (takes_of rfl rfl rfl rfl) (fun _ _ _ _ h => h)) (by rfl) (pa_cons (pv 1) pa_nil)))
      (pss_cons (ps_asg (pe_cN GL hr (by decide) (by rfl) (pa_cons (pe_meth0 (pv 0) T.cls T.mB GB (hr.mono (by decide)) bB .nil pass0) pa_nil)) (pg_tup rfl (pgs_cons (pg_name (i := 2) sc_strictest_least.nd rfl (Or.inl rfl)) (pgs_cons (pg_name (i := 3) sc_strictest_least.nd rfl (Or.inl rfl)) pgs_nil))))
      (pss_one (ps_ret (pe_op op_fdivW (pe_op op_mulW (pv 2) (pv 1)) (pv 3))))))), ?_⟩
    wtm_at "ev_go"
    refine ⟨a, lo, hi, R, rs, rfl, bk, fun nc => ?_, q3⟩
    wtm_at "ev_go"
    refine ⟨n, rfl, fun h1 => ?_, fun h1 => q2 nc h1⟩
    wtm_at "ev_go"
    refine ⟨a, dx, fs, rfl, ha, l5 _ (by decide +kernel), ?_⟩
    wtm_at "ev_go"
    refine ⟨a, dx, l, fs, lo, hi, R, rs, rfl, ha, l1, l2, l3, hl, hR, nu.l, nu.a, nu.b, fun p L' H1 s1 hp r1 => ?_⟩
    wtm_at "ev_go"
    refine ⟨p, L', (1, lo, hi), rs, rfl, SqL.of hp, r1, fun q hq n1 n2 => ?_⟩
    have isl := low_is (1, lo, hi) rs nu.w
    have pos : 0 < (lowM (1, lo, hi) rs).2 := by
      obtain ⟨⟨z, hz, e⟩, _⟩ := isl
      rw [e]
      have := nu.w z hz
      show 0 < z.1
      omega
    have cd := wide_div (i := (lowM (1, lo, hi) rs).1 * n) (b := 1000) pos n2 (by decide) (by decide)
    wtm_at "ev_go"
    exact q1 nc h1 _ (s1.trans (Same.new hq))
theorem ok_smost {f fR fW : Addr} {fd fdR fdW fdB : FuncData} (F : Fun K "strictest_most" "strictest_most" s_strictest_most f fd) (T : TxB K mg fI cD cR cB fB fN) (GRo : CalX P w K mg base 3 "check_rows" fR fdR ["book"] (spRows cB cW)) (GWi : CalX P w K mg base 3 "check_width" fW fdW ["width"] (spWidth cL)) (GH : CalN P w K mg base 1 "highest_least" (spHigh K))
    (GB : FnOk P w K mg base CX0 1 fB fdB ["self"] (spBnd cB)) (bB : Binds K fdB ["self"] []) : FnOk P w K mg base (L2.CX P w) 4 f fd ["book", "width"] (spStr cB cW cL strM) := by
  refine F.okX sc_strictest_most (fun vs H Q E h => ?_) (fun cdv A outer s H vs Q E hr h => ?_)
  · obtain ⟨a, lo, hi, n, R, rs, rfl, _⟩ := h
    rfl
  · obtain ⟨a, lo, hi, n, R, rs, rfl, bk, nu, nn, q1, q2, q3⟩ := h
    obtain ⟨dx, l, fs, v, ha, hl, l1, l2, l3, l4, cv, hR, l5⟩ := id bk
    refine ⟨_, (pss_cons (ps_expr (pe_cX GRo hr (by decide) (passes_call (takes_of rfl rfl rfl rfl) (fun _ _ _ _ h => h)) (by rfl) (pa_cons (pv 0) pa_nil)))
      (pss_cons (ps_expr (pe_cX GWi hr (by decide) (passes_call (takes_of rfl rfl rfl rfl) (fun _ _ _ _ h => h)) (by rfl) (pa_cons (pv 1) pa_nil)))
      (pss_cons (ps_asg (pe_cN GH hr (by decide) (by rfl) (pa_cons (pe_meth0 (pv 0) T.cls T.mB GB (hr.mono (by decide)) bB .nil pass0) pa_nil)) (pg_tup rfl (pgs_cons (pg_name (i := 2) sc_strictest_most.nd rfl (Or.inl rfl)) (pgs_cons (pg_name (i := 3) sc_strictest_most.nd rfl (Or.inl rfl)) pgs_nil))))
      (pss_one (ps_ret (pe_un un_neg (pe_op op_fdivW (pe_op op_mulW (pe_un un_neg (pv 2)) (pv 1)) (pv 3)))))))), ?_⟩
    wtm_at "ev_go"
    refine ⟨a, lo, hi, R, rs, rfl, bk, fun nc => ?_, q3⟩
    wtm_at "ev_go"
    refine ⟨n, rfl, fun h1 => ?_, fun h1 => q2 nc h1⟩
    wtm_at "ev_go"
    refine ⟨a, dx, fs, rfl, ha, l5 _ (by decide +kernel), ?_⟩
    wtm_at "ev_go"
    refine ⟨a, dx, l, fs, lo, hi, R, rs, rfl, ha, l1, l2, l3, hl, hR, nu.l, nu.a, nu.b, fun p L' H1 s1 hp r1 => ?_⟩
    wtm_at "ev_go"
    refine ⟨p, L', (1, lo, hi), rs, rfl, SqL.of hp, r1, fun q hq n1 n2 => ?_⟩
    have isl := high_is (1, lo, hi) rs nu.w
    have pos : 0 < (highM (1, lo, hi) rs).2 := by
      obtain ⟨⟨z, hz, e⟩, _⟩ := isl
      rw [e]
      have := nu.w z hz
      show 0 < z.1
      omega
    have cd := wide_div (i := -(highM (1, lo, hi) rs).1 * n) (b := 1000) pos n2 (by decide) (by decide)
    have n3 : Num (-(highM (1, lo, hi) rs).1) := num_neg n1
    wtm_at "ev_go"
    exact q1 nc h1 _ (s1.trans (Same.new hq))
end
end

end
end
section
local macro_rules | `(tactic| wtm_at "ev_step") => `(tactic| with_reducible first | refine rd_par ?_ | refine rd_par2 ?_ | refine rd_rng2 ?_ | refine rd_forF ?_ | refine rd_revR ?_ | refine rd_iRev ?_ | refine rd_rg1 ?_ | refine rd_par3 ?_ | refine rd_chain ?_)
section
/-- a list that stays: neither the pool nor owned -/
def LstO (p : Addr) (H : Hp) (ow : Addr → Prop) (q : Addr) (xs : List V) : Prop := H q = some (.lst xs) ∧ q ≠ p ∧ ¬ ow q
theorem LstO.go {p q : Addr} {H H' : Hp} {ow ow' : Addr → Prop} {xs : List V} (h : LstO p H ow q xs) (g : Go p H ow H' ow') : LstO p H' ow' q xs := by
  obtain ⟨a, b⟩ := g.keep h.1 h.2.1 h.2.2
  exact ⟨a, h.2.1, b⟩
theorem St.lst {cB cM cS p q : Addr} {H0 H H' : Hp} {ow : Addr → Prop} {L : List V} {n : Int} {S : List Bk} {xs : List V} (h : St cB cM cS p H0 H ow L n S) (hq : H q = none) (e : H' q = some (.lst xs)) : LstO p H' ow q xs := ⟨e, (ne_of_none h.hp hq).symm, fun z => h.al q z hq⟩
theorem St.owx {cB cM cS p : Addr} {H0 H : Hp} {ow : Addr → Prop} {L : List V} {n : Int} {S : List Bk} (_ : St cB cM cS p H0 H ow L n S) : ∃ o, o = ow := ⟨_, rfl⟩
theorem St.kind {cB cM cS p kd l : Addr} {H0 H H' : Hp} {ow : Addr → Prop} {L R : List V} {n lo hi : Int} {S : List Bk} {rs : List R3} (h : St cB cM cS p H0 H ow L n S) (nl : H l = none) (hkd : H' kd = some (.tup [.int lo, .int hi, .ref l])) (hl : H' l = some (.lst R)) (hR : RlR H' R rs) : KindO p H' ow kd lo hi rs := ⟨l, R, hkd, hl, hR, (ne_of_none h.hp nl).symm, fun z => h.al l z nl⟩

section
variable {K : PySem.W.Frag} {σ : L2.St} {H : Hp} {Q : VK}
/-- [e for x in range(n)], e may change things -/
theorem rd_lc1R {s n : Nat} {te : TE} (Pv : Addr → Nat → Hp → Prop) (h0 : ∀ D, H D = none → Pv D 0 (upd H D (.lst []))) (hs : ∀ (D : Addr) (i : Nat) (H' : Hp) (Q' : VK), i < n → Pv D i H' → (∀ y H4, (∃ acc, H4 D = some (.lst acc) ∧ acc.length < sizeLine ∧ Pv D (i + 1) (upd H4 D (.lst (acc ++ [y])))) → Q' y H4) → te ((σ.set s none).set s (some (.int (0 + i)))) H' Q')
    (hd : ∀ D H', Pv D n H' → Q (.ref D) H') : tLc (fun _ H' R => R (Itr 0 n) H') (gName s) tYes te [s] σ H Q := fun D hD => by
  have w1 : ∀ x : Option V, L2.wipe ((L2.wipe σ [s]).set s x) [s] = L2.wipe σ [s] := fun x => by
    show ((σ.set s none).set s x).set s none = σ.set s none
    rw [List.set_set, List.set_set]
  refine lc_range (fun i H' => Pv D i H') (h0 D hD) (fun i H' hi p => ⟨w1 _, ?_⟩) (hd D)
  dsimp only [tYes]
  rw [if_pos rfl]
  exact hs D i H' _ hi p (fun y H4 h => h)
end
/-- an own list that grows: St stays -/
theorem St.grow {cB cM cS p D : Addr} {H0 H : Hp} {ow : Addr → Prop} {L xs ys : List V} {n : Int} {S : List Bk} (h : St cB cM cS p H0 H ow L n S) (hD : LstO p H ow D xs) (hn : H0 D = none) : St cB cM cS p H0 (upd H D (.lst ys)) ow L n S ∧ LstO p (upd H D (.lst ys)) ow D ys := by
  refine ⟨⟨lk_ne hD.2.1.symm h.hp, h.pl, h.np, h.bk.keepA fun c o e w => lk_ne (fun z => ?_) e, ⟨fun c o e np _ => lk_ne (fun z => ?_) (h.g.k c o e np fun z => z), fun c xs e => lk_ne (fun z => ?_) (h.g.t c xs e), fun c e z => ?_, h.g.w⟩, fun c z y => ?_⟩, upd_same, hD.2.1, hD.2.2⟩
  · subst z
    rcases w with w | ⟨zs, rfl⟩
    · exact hD.2.2 w
    · rw [hD.1] at e; cases e
  · subst z
    rw [hn] at e; cases e
  · subst z
    rw [hn] at e; cases e
  · by_cases c1 : c = D
    · subst c1
      rw [upd_same] at z; cases z
    · rw [upd_ne c1] at z
      exact h.g.a c e z
  · by_cases c1 : c = D
    · subst c1
      exact hD.2.2 z
    · rw [upd_ne c1] at y
      exact h.al c z y
/-- what stays when an own list, new since H1, grows -/
theorem Go.grow {p D : Addr} {H1 H : Hp} {ow1 ow : Addr → Prop} {xs ys : List V} (g : Go p H1 ow1 H ow) (hD : H D = some (.lst xs)) (hn : H1 D = none) : Go p H1 ow1 (upd H D (.lst ys)) ow :=
  ⟨fun c o e np no => lk_ne (fun z => by subst z; rw [hn] at e; cases e) (g.k c o e np no), fun c xs e => lk_ne (fun z => by subst z; rw [hn] at e; cases e) (g.t c xs e), fun c e z => by
    by_cases c1 : c = D
    · subst c1
      rw [upd_same] at z; cases z
    · rw [upd_ne c1] at z
      exact g.a c e z, g.w⟩
def spShares : Sp := fun vs H Q _ => ∃ (k l : Addr) (lo hi : Int) (R : List V) (rs : List R3), vs = [.ref k] ∧ H k = some (.tup [.int lo, .int hi, .ref l]) ∧ H l = some (.lst R) ∧ RlR H R rs ∧ Num lo ∧ Num hi ∧
  ∀ (q a b : Addr) (H' : Hp), Same H H' → H' q = some (.tup [.ref a, .ref b]) → H' a = some (.tup [.int (highM (1, lo, hi) rs).1, .int (highM (1, lo, hi) rs).2]) → H' b = some (.tup [.int (lowM (1, lo, hi) rs).1, .int (lowM (1, lo, hi) rs).2]) → Q (.ref q) H'
section
variable {P : Program} {w : World} {K : PySem.W.Frag} {mg : Str → Option Value} {base : Heap}
theorem ok_lshares {f : Addr} {fd : FuncData} (F : Fun K "_law_shares" "_law_shares" s_law_shares f fd) (T : Blt mg) : FnOk P w K mg base CX0 1 f fd ["kind"] spShares := by
  refine F.ok sc_law_shares (fun vs H Q E h => ?_) (fun cdv A outer s H vs Q E hr h => ?_)
  · obtain ⟨k, l, lo, hi, R, rs, rfl, _⟩ := h
    rfl
  · obtain ⟨k, l, lo, hi, R, rs, rfl, hk, hl, hR, nlo, nhi, q⟩ := h
    refine ⟨_, (pss_cons (ps_par (i := 1) (j := 2) (by rfl) sc_law_shares.nd rfl rfl (by decide) rfl rfl (pa_cons (pe_tup (pa_cons (pe_ix ix_tup (pv 0) pe_int (fun _ _ => rfl)) (pa_cons pe_int pa_nil))) (pa_cons (pe_tup (pa_cons (pe_ix ix_tup (pv 0) pe_int (fun _ _ => rfl)) (pa_cons pe_int pa_nil))) pa_nil)) (by rfl))
      (pss_cons (ps_for PassesOwn.never rfl (pi_list (pe_ix ix_tup (pv 0) pe_int (fun _ _ => rfl))) (pg_tup rfl (pgs_cons (pg_name (i := 3) sc_law_shares.nd rfl (Or.inl rfl)) (pgs_cons (pg_name (i := 4) sc_law_shares.nd rfl (Or.inl rfl)) (pgs_cons (pg_name (i := 5) sc_law_shares.nd rfl (Or.inl rfl)) pgs_nil)))) 
        (pss_cons (ps_if (pt_cmpR op_gt (pe_op op_mulW (pv 4) (pe_ix ix_tup (pv 1) pe_int (fun _ _ => rfl))) (pe_op op_mulW (pe_ix ix_tup (pv 1) pe_int (fun _ _ => rfl)) (pv 3)) (nomark _)) 
          (pss_one (ps_set (i := 1) sc_law_shares.nd rfl (Or.inl rfl) (pe_tup (pa_cons (pv 4) (pa_cons (pv 3) pa_nil))))) pss_nil)
        (pss_one (ps_if (pt_cmpR op_lt (pe_op op_mulW (pv 5) (pe_ix ix_tup (pv 2) pe_int (fun _ _ => rfl))) (pe_op op_mulW (pe_ix ix_tup (pv 2) pe_int (fun _ _ => rfl)) (pv 3)) (nomark _)) 
          (pss_one (ps_set (i := 2) sc_law_shares.nd rfl (Or.inl rfl) (pe_tup (pa_cons (pv 5) (pa_cons (pv 3) pa_nil))))) pss_nil))))
      (pss_one (ps_ret (pe_tup (pa_cons (pv 1) (pa_cons (pv 2) pa_nil))))))), ?_⟩
    wtm_at "ev_go"
    intro a0 ha0
    wtm_at "ev_go"
    intro b0 hb0
    have sA := Same.new (o := .tup [V.int lo, .int 1]) ha0
    have sB := sA.trans (Same.new (o := .tup [V.int hi, .int 1]) hb0)
    have n1 : Num 1 := num_of (by decide)
    wtm_at "ev_go"
    refine rd_forL (xs := R) (fun i σ' H' => ∃ (x3 x4 x5 : Option V) (a b : Addr) (m n : Int × Int), σ' = [some (.ref k), some (.ref a), some (.ref b), x3, x4, x5] ∧ Same H H' ∧ H' a = some (.tup [.int m.1, .int m.2]) ∧ H' b = some (.tup [.int n.1, .int n.2]) ∧ Num m.1 ∧ Num m.2 ∧ Num n.1 ∧ Num n.2 ∧
      m = (rs.take i).foldl highStep (lo, 1) ∧ n = (rs.take i).foldl lowStep (hi, 1)) ⟨_, _, _, a0, b0, (lo, 1), (hi, 1), rfl, sB, lk_ne (ne_of_none upd_same hb0) upd_same, upd_same, nlo, n1, nhi, n1, rfl, rfl⟩ (fun i σ' H' _ h => by obtain ⟨_, _, _, _, _, _, _, _, z, _⟩ := h; exact SqL.of (z _ _ hl)) ?_ ?_
    · rintro i x σ' H' hx ⟨x3, x4, x5, a, b, m, n, rfl, sm, ha, hb, m1, m2, n1, n2, em, en⟩
      obtain ⟨c, r, rfl, er, hc, w1, w2, w3⟩ := hR.2 i x hx
      have em' := take_fold (f := highStep) (b := (lo, (1 : Int))) er
      have en' := take_fold (f := lowStep) (b := (hi, (1 : Int))) er
      rw [← em] at em'
      rw [← en] at en'
      have hc' := sm _ _ hc
      wtm_at "ev_go"
      refine rd_ite (fun c1 => ?_) (fun c1 => ?_)
      · wtm_at "ev_go"
        intro p hp
        have sp := Same.new (o := .tup [V.int r.2.1, .int r.1]) hp
        have hb' := sp _ _ hb
        wtm_at "ev_go"
        refine rd_ite (fun c2 => ?_) (fun c2 => ?_)
        · wtm_at "ev_go"
          intro p' hp'
          have sp' := Same.new (o := .tup [V.int r.2.2, .int r.1]) hp'
          wtm_at "ev_go"
          refine ⟨_, _, _, p, p', (r.2.1, r.1), (r.2.2, r.1), rfl, (sm.trans sp).trans sp', sp' _ _ upd_same, upd_same, w2, w1, w3, w1, ?_, ?_⟩
          · rw [em']; unfold highStep; rw [if_pos c1]
          · rw [en']; unfold lowStep; rw [if_pos c2]
        · wtm_at "ev_go"
          refine ⟨_, _, _, p, b, (r.2.1, r.1), n, rfl, sm.trans sp, upd_same, hb', w2, w1, n1, n2, ?_, ?_⟩
          · rw [em']; unfold highStep; rw [if_pos c1]
          · rw [en']; unfold lowStep; rw [if_neg c2]
      · wtm_at "ev_go"
        refine rd_ite (fun c2 => ?_) (fun c2 => ?_)
        · wtm_at "ev_go"
          intro p' hp'
          have sp' := Same.new (o := .tup [V.int r.2.2, .int r.1]) hp'
          wtm_at "ev_go"
          refine ⟨_, _, _, a, p', m, (r.2.2, r.1), rfl, sm.trans sp', sp' _ _ ha, upd_same, m1, m2, w3, w1, ?_, ?_⟩
          · rw [em']; unfold highStep; rw [if_neg c1]
          · rw [en']; unfold lowStep; rw [if_pos c2]
        · wtm_at "ev_go"
          refine ⟨_, _, _, a, b, m, n, rfl, sm, ha, hb, m1, m2, n1, n2, ?_, ?_⟩
          · rw [em']; unfold highStep; rw [if_neg c1]
          · rw [en']; unfold lowStep; rw [if_neg c2]
    · rintro σ' H' ⟨x3, x4, x5, a, b, m, n, rfl, sm, ha, hb, m1, m2, n1, n2, em, en⟩
      rw [hR.1, List.take_length] at em en
      wtm_at "ev_go"
      intro p hp
      have sp := Same.new (o := .tup [V.ref a, .ref b]) hp
      have e1 : highM (1, lo, hi) rs = m := by rw [highM_eq, em]
      have e2 : lowM (1, lo, hi) rs = n := by rw [lowM_eq, en]
      exact q p a b _ (sm.trans sp) upd_same (by rw [e1]; exact sp _ _ ha) (by rw [e2]; exact sp _ _ hb)
end
/-- a day of an even row -/
def evDay (A B ph : Int) (i : Nat) : Int := ((i : Int) * A + ph + A) / B - ((i : Int) * A + ph) / B
def evL (A B ph : Int) (n : Nat) : List Int := (List.range n).map (evDay A B ph)
/-- A / B is a share between all bounds -/
def Mean (A B : Int) (Bs : List R3) : Prop := 1 ≤ B ∧ ∀ r ∈ Bs, r.2.1 * B ≤ A * r.1 ∧ A * r.1 ≤ r.2.2 * B
theorem ev_step {A B : Int} {Bs : List R3} (h : Mean A B Bs) {ph : Int} {n x : Int} (w : Wg (upS Bs) (dnS Bs) n x) : ∀ i : Int, ((i + n) * A + ph) / B - (i * A + ph) / B ≤ x := by
  have hB : 0 < B := by have := h.1; omega
  have up : ∀ U : List (Int × Int), (∀ s ∈ U, s ∈ upS Bs) → ∀ i : Int, ((i + tw U) * A + ph) / B - (i * A + ph) / B ≤ tv U := by
    intro U
    induction U with
    | nil => intro _ i; rw [tw_nil, tv_nil, Int.add_zero, Int.sub_self]; exact Int.le_refl _
    | cons s U ih =>
      intro hs i
      obtain ⟨r, hr, e⟩ := List.mem_map.mp (hs s List.mem_cons_self)
      have a := (h.2 r hr).2
      have := ih (fun t ht => hs t (List.mem_cons_of_mem _ ht)) (i + s.1)
      rw [tw_cons, tv_cons]
      have e1 : (i + (s.1 + tw U)) * A + ph = (i + s.1 + tw U) * A + ph := by rw [Int.add_assoc]
      rw [e1]
      have b : ((i + s.1) * A + ph) / B ≤ (i * A + ph) / B + s.2 := by
        rw [← Int.add_mul_ediv_right _ _ (show B ≠ 0 by omega)]
        refine Int.ediv_le_ediv hB ?_
        rw [Int.add_mul]
        have : s.1 * A ≤ s.2 * B := by rw [← e, Int.mul_comm]; exact a
        omega
      omega
  have dn : ∀ U : List (Int × Int), (∀ s ∈ U, s ∈ dnS Bs) → ∀ i : Int, ((i - tw U) * A + ph) / B - (i * A + ph) / B ≤ tv U := by
    intro U
    induction U with
    | nil => intro _ i; rw [tw_nil, tv_nil, Int.sub_zero, Int.sub_self]; exact Int.le_refl _
    | cons s U ih =>
      intro hs i
      obtain ⟨r, hr, e⟩ := List.mem_map.mp (hs s List.mem_cons_self)
      have a := (h.2 r hr).1
      have := ih (fun t ht => hs t (List.mem_cons_of_mem _ ht)) (i - s.1)
      rw [tw_cons, tv_cons]
      have e1 : (i - (s.1 + tw U)) * A + ph = (i - s.1 - tw U) * A + ph := by rw [Int.sub_sub]
      rw [e1]
      have b : ((i - s.1) * A + ph) / B ≤ (i * A + ph) / B + s.2 := by
        rw [← Int.add_mul_ediv_right _ _ (show B ≠ 0 by omega)]
        refine Int.ediv_le_ediv hB ?_
        rw [Int.sub_mul]
        have : -(s.1 * A) ≤ s.2 * B := by
          rw [← e]
          show -(r.1 * A) ≤ -r.2.1 * B
          rw [Int.neg_mul, Int.mul_comm r.1]
          omega
        omega
      omega
  intro i
  obtain ⟨U, D, h1, h2, e1, e2⟩ := w
  have a := up U h1 (i - tw D)
  have b := dn D h2 i
  rw [show i - tw D + tw U = i + n by omega] at a
  omega
end

section
local macro_rules | `(tactic| wtm_at "ev_step") => `(tactic| with_reducible first | refine rd_par3 ?_)
section
/-- the height of a place in an even row -/
def evH (A B ph y : Int) : Int := (y * A + ph) / B
theorem ev_rowt {A B ph : Int} {Bs : List R3} (h : Mean A B Bs) {K : List R3} (hk : ∀ k ∈ K, k.2.2 = evH A B ph k.2.1 - evH A B ph k.1) : RowT (upS Bs) (dnS Bs) K (evH A B ph) := ⟨fun n c x w => by
  have := ev_step h (ph := ph) w x
  unfold evH
  omega, fun k m => (hk k m).symm⟩
theorem R3L.snoc {H : Hp} {L : List V} {rs : List R3} {a : Addr} {r : R3} (h : R3L H L rs) (ha : H a = some (.tup [.int r.1, .int r.2.1, .int r.2.2])) : R3L H (L ++ [.ref a]) (rs ++ [r]) := by
  refine ⟨by rw [List.length_append, List.length_append, h.1]; rfl, fun i v e => ?_⟩
  by_cases c : i < L.length
  · rw [List.getElem?_append_left c] at e
    obtain ⟨b, q, q1, q2, q3⟩ := h.2 i v e
    exact ⟨b, q, q1, by rw [List.getElem?_append_left (by rw [← h.1]; exact c)]; exact q2, q3⟩
  · rw [List.getElem?_append_right (by omega)] at e
    have il := (List.getElem?_eq_some_iff.mp e).1
    rw [List.length_singleton] at il
    have z : i - L.length = 0 := by omega
    rw [z] at e
    cases e
    exact ⟨a, r, rfl, by rw [List.getElem?_append_right (by rw [← h.1]; omega), ← h.1, z]; rfl, ha⟩
theorem lt2000b {m : Int} (h : m < 10 ^ 40) : m < 2 ^ 2000 := Int.lt_trans h (by decide +kernel)
structure RtI (p tl ts : Addr) (H : Hp) (A B : Int) (KL : List V) (kl : List R3) (H' : Hp) (L' : List V) : Prop where
  fr : Fr p H H'
  hp : H' p = some (.lst L')
  lt : H' tl = some (.lst KL)
  sh : H' ts = some (.tup [.int A, .int B])
  hk : R3L H' KL kl
  n : p ≠ tl
  t0 : H tl = none
section
variable {p tl ts : Addr} {H H' H2 : Hp} {A B : Int} {KL L' L2 : List V} {kl : List R3}
theorem RtI.draw (h : RtI p tl ts H A B KL kl H' L') : RtI p tl ts H A B KL kl (upd H' p (.lst L2)) L2 :=
  ⟨h.fr.put, upd_same, lk_ne (Ne.symm h.n) h.lt, lk_ne (ne_of h.sh h.hp (fun z => by cases z)) h.sh, h.hk.keep fun c xs e => lk_ne (ne_of e h.hp (fun z => by cases z)) e, h.n, h.t0⟩
theorem RtI.same (h : RtI p tl ts H A B KL kl H' L') (s : Same H' H2) : RtI p tl ts H A B KL kl H2 L' := ⟨h.fr.same s, s _ _ h.hp, s _ _ h.lt, s _ _ h.sh, h.hk.keep fun c xs e => s _ _ e, h.n, h.t0⟩
theorem RtI.add {a : Addr} {k : R3} (h : RtI p tl ts H A B KL kl H' L') (ha : H' a = some (.tup [.int k.1, .int k.2.1, .int k.2.2])) : RtI p tl ts H A B (KL ++ [.ref a]) (kl ++ [k]) (upd H' tl (.lst (KL ++ [.ref a]))) L' :=
  ⟨fun c o e n => lk_ne (fun z => by rw [z, h.t0] at e; cases e) (h.fr c o e n), lk_ne h.n h.hp, upd_same, lk_ne (ne_of h.sh h.lt (fun z => by cases z)) h.sh, (h.hk.snoc ha).keep fun c xs e => lk_ne (ne_of e h.lt (fun z => by cases z)) e, h.n, h.t0⟩
end
def spAm : Sp := fun vs H Q _ => ∃ (t : Addr) (A B ph x n : Int), vs = [.ref t, .int ph, .int x, .int n] ∧ H t = some (.tup [.int A, .int B]) ∧ 1 ≤ B ∧ B ≤ 10 ^ 9 ∧ A.natAbs ≤ 10 ^ 9 ∧ ph.natAbs ≤ 10 ^ 9 ∧ x.natAbs ≤ 10 ^ 40 ∧ n.natAbs ≤ 10 ^ 40 ∧ Q (.int (evH A B ph (x + n) - evH A B ph x)) H
/-- known sums that an even row has -/
structure RowK (A B ph far many : Int) (kl : List R3) : Prop where
  n : (kl.length : Int) ≤ many
  k : ∀ k ∈ kl, k.1.natAbs ≤ far.natAbs + 20 ∧ 1 ≤ k.2.1 ∧ k.2.1 ≤ far + 12 ∧ k.2.2 = evH A B ph (k.1 + k.2.1) - evH A B ph k.1

theorem lowM_app {r0 r : R3} {rs : List R3} (h : (lowM r0 rs).1 * r.1 ≤ r.2.2 * (lowM r0 rs).2) : lowM r0 (rs ++ [r]) = lowM r0 rs := by
  rw [lowM_eq] at h ⊢
  rw [lowM_eq, List.foldl_append, List.foldl_cons, List.foldl_nil]
  generalize rs.foldl lowStep (r0.2.2, r0.1) = m at h ⊢
  unfold lowStep
  rw [if_neg (by omega)]
theorem highM_app {r0 r : R3} {rs : List R3} (h : r.2.1 * (highM r0 rs).2 ≤ (highM r0 rs).1 * r.1) : highM r0 (rs ++ [r]) = highM r0 rs := by
  rw [highM_eq] at h ⊢
  rw [highM_eq, List.foldl_append, List.foldl_cons, List.foldl_nil]
  generalize rs.foldl highStep (r0.2.1, r0.1) = m at h ⊢
  unfold highStep
  rw [if_neg (by omega)]
theorem mean_low {lo hi : Int} {rs : List R3} (h : Rw ((1, lo, hi) :: rs)) : Mean (lowM (1, lo, hi) rs).1 (lowM (1, lo, hi) rs).2 ((1, lo, hi) :: rs) := by
  obtain ⟨⟨q, hq, e⟩, al⟩ := low_is (1, lo, hi) rs h.w
  rw [e] at al ⊢
  exact ⟨h.w q hq, fun r hr => ⟨h.nc r hr q hq, al r hr⟩⟩
theorem mean_high {lo hi : Int} {rs : List R3} (h : Rw ((1, lo, hi) :: rs)) : Mean (highM (1, lo, hi) rs).1 (highM (1, lo, hi) rs).2 ((1, lo, hi) :: rs) := by
  obtain ⟨⟨q, hq, e⟩, al⟩ := high_is (1, lo, hi) rs h.w
  rw [e] at al ⊢
  exact ⟨h.w q hq, fun r hr => ⟨al r hr, h.nc q hq r hr⟩⟩

def spTO : Sp := fun vs H Q _ => ∃ (p ts : Addr) (L : List V) (n A B : Int), vs = [.ref p, .ref ts] ∧ H p = some (.lst L) ∧ PoolL L n ∧ n ≤ 900000 ∧ H ts = some (.tup [.int A, .int B]) ∧ 1 ≤ B ∧ B ≤ 2000 ∧ A.natAbs ≤ 100000 ∧
  ∀ (tl : Addr) (ph : Int) (KL L' : List V) (kl : List R3) (H' : Hp), Fr p H H' → H' p = some (.lst L') → PoolL L' (n + 100) → H' tl = some (.lst KL) → H tl = none → R3L H' KL kl → RowK A B ph (10 ^ 20) 4 kl → 0 ≤ ph → ph < 100 → Q (.ref tl) H'
section
variable {P : Program} {w : World} {K : PySem.W.Frag} {mg : Str → Option Value} {base : Heap}
theorem ok_amount {f : Addr} {fd : FuncData} (F : Fun K "_law_amount" "_law_amount" s_amount f fd) : FnOk P w K mg base CX0 1 f fd ["share", "phase", "first_one", "size"] spAm := by
  refine F.ok sc_amount (fun vs H Q E h => ?_) (fun cdv A outer s H vs Q E hr h => ?_)
  · obtain ⟨t, A, B, ph, x, n, rfl, _⟩ := h
    rfl
  · obtain ⟨t, A, B, ph, x, n, rfl, ht, b1, b2, ba, bp, bx, bn, q⟩ := h
    refine ⟨_, (pss_cons (ps_set (i := 4) sc_amount.nd rfl (Or.inl rfl) (pe_op op_fdivW (pe_op op_add (pe_op op_mulW (pe_op op_add (pv 2) (pv 3)) (pe_ix ix_tup (pv 0) pe_int (fun _ _ => rfl))) (pv 1)) (pe_ix ix_tup (pv 0) pe_int (fun _ _ => rfl))))
      (pss_one (ps_ret (pe_op op_sub (pv 4) (pe_op op_fdivW (pe_op op_add (pe_op op_mulW (pv 2) (pe_ix ix_tup (pv 0) pe_int (fun _ _ => rfl))) (pv 1)) (pe_ix ix_tup (pv 0) pe_int (fun _ _ => rfl))))))), ?_⟩
    have nA : Num A := num_pl (by omega)
    have nB : Num B := num_pl (by omega)
    have c1 : CMulW (x + n) A := by exact (num_pl (by omega)).mul nA
    have c2 : CMulW x A := by exact (num_pl (by omega)).mul nA
    wtm_at "ev_go"
    exact q

theorem ok_tiesof {f : Addr} {fd : FuncData} (F : Fun K "_law_ties_of" "_law_ties_of" s_ties_of f fd) (T : Blt mg) (GD : CalN P w K mg base 1 "_law_draw" spDraw) (GAM : CalN P w K mg base 1 "_law_amount" spAm) : FnOk P w K mg base CX0 2 f fd ["pool", "share"] spTO := by
  refine F.ok sc_ties_of (fun vs H Q E h => ?_) (fun cdv A outer s H vs Q E hr h => ?_)
  · obtain ⟨p, ts, L, n, A, B, rfl, _⟩ := h
    rfl
  · obtain ⟨p, ts, L, n, A, B, rfl, hp, hL, hn, hts, b1, b9, ba, q⟩ := h
    refine ⟨_, (pss_cons (ps_par (i := 2) (j := 3) (by rfl) sc_ties_of.nd rfl rfl (by decide) rfl rfl (pa_cons (pe_cN GD hr (by decide) (by rfl) (pa_cons (pv 0) (pa_cons pe_int pa_nil))) (pa_cons (pe_lst pa_nil) pa_nil)) (by rfl))
      (pss_cons (ps_for PassesOwn.never rfl (pi_range1 (by rfl) T.n_range (pa_cons pe_int pa_nil)) (pg_name (i := 4) sc_ties_of.nd rfl (Or.inl rfl)) 
        (pss_cons (ps_par (i := 5) (j := 6) (by rfl) sc_ties_of.nd rfl rfl (by decide) rfl rfl (pa_cons (pe_cN GD hr (by decide) (by rfl) (pa_cons (pv 0) (pa_cons (pe_op op_powW pe_int pe_int) pa_nil))) (pa_cons (pe_op op_add pe_int (pe_ix ix_list (pe_lst (pa_cons (pe_cN GD hr (by decide) (by rfl) (pa_cons (pv 0) (pa_cons pe_int pa_nil))) (pa_cons (pe_cN GD hr (by decide) (by rfl) (pa_cons (pv 0) (pa_cons (pe_op op_powW pe_int pe_int) pa_nil))) pa_nil))) (pe_op op_fdivW (pv 4) pe_int) (fun _ _ => rfl))) pa_nil)) (by rfl))
        (pss_one (ps_expr (pe_bm PySem.F.plainAttrs_list PySem.F.slot_list_append PySem.F.type_list_append mt_append (pv 3) (pa_cons (pe_tup (pa_cons (pv 5) (pa_cons (pv 6) (pa_cons (pe_cN GAM hr (by decide) (by rfl) (pa_cons (pv 1) (pa_cons (pv 2) (pa_cons (pv 5) (pa_cons (pv 6) pa_nil))))) pa_nil)))) pa_nil))))))
      (pss_one (ps_ret (pv 3))))), ?_⟩
    wtm_at "ev_go"
    refine rd_draw hp hL (by omega) (by decide) (by decide +kernel) (fun ph L2 ph0 ph9 hL2 => ?_)
    have hts2 : upd H p (.lst L2) ts = some (.tup [.int A, .int B]) := lk_ne (ne_of hts hp (fun z => by cases z)) hts
    have fr2 : Fr p H (upd H p (.lst L2)) := fun c o e n => lk_ne n e
    have hp2 : upd H p (.lst L2) p = some (.lst L2) := upd_same
    generalize upd H p (.lst L2) = H2 at hts2 fr2 hp2
    wtm_at "ev_go"
    intro tl htl
    have ntp : p ≠ tl := ne_of_none hp2 htl
    have nts : ts ≠ tl := ne_of_none hts2 htl
    have iv : RtI p tl ts H A B [] [] (upd H2 tl (.lst [])) L2 := ⟨fun c o e z => lk_ne (fun y => by
        have t0 : H2 tl = none := htl
        by_cases cp : c = p
        · exact z cp
        · rw [← y, fr2 c o e cp] at t0; cases t0) (fr2 c o e z), lk_ne ntp hp2, upd_same, lk_ne nts hts2, ⟨rfl, fun i v e => by cases e⟩, ntp, by
        cases e : H tl with
        | none => rfl
        | some o => rw [fr2 _ _ e (Ne.symm ntp)] at htl; cases htl⟩
    generalize upd H2 tl (.lst []) = H3 at iv
    wtm_at "ev_go"
    refine rd_forR (fun i σ' H' => ∃ (x4 x5 x6 : Option V) (KL L' : List V) (kl : List R3), σ' = [some (.ref p), some (.ref ts), some (.int ph), some (.ref tl), x4, x5, x6] ∧ RtI p tl ts H A B KL kl H' L' ∧ PoolL L' (n + 10 + 6 * (i : Int)) ∧ RowK A B ph (10 ^ 20) i kl)
      ⟨none, none, none, [], L2, [], rfl, iv, hL2.le (by omega), ⟨by show (0 : Int) ≤ _; omega, fun k m => by cases m⟩⟩ ?_ ?_
    · rintro i σ' H' hi ⟨x4, x5, x6, KL, L', kl, rfl, iv, hL', rk⟩
      wtm_at "ev_go"
      refine rd_draw (m := (10 ^ Int.toNat 6)) iv.hp hL' (by omega) (by decide) (by decide +kernel) (fun d1 M1 e01 e91 hL'' => ?_)
      replace iv := iv.draw (L2 := M1)
      replace hL' := hL''
      clear hL''
      generalize upd _ p (.lst M1) = G1 at iv ⊢
      wtm_at "ev_go"
      refine rd_draw (m := 30) iv.hp hL' (by omega) (by decide) (by decide +kernel) (fun d2 M2 e02 e92 hL'' => ?_)
      replace iv := iv.draw (L2 := M2)
      replace hL' := hL''
      clear hL''
      generalize upd _ p (.lst M2) = G2 at iv ⊢
      wtm_at "ev_go"
      refine rd_draw (m := (10 ^ Int.toNat 20)) iv.hp hL' (by omega) (by decide) (by decide +kernel) (fun d3 M3 e03 e93 hL'' => ?_)
      replace iv := iv.draw (L2 := M3)
      replace hL' := hL''
      clear hL''
      generalize upd _ p (.lst M3) = G3 at iv ⊢
      wtm_at "ev_go"

      intro q2 hq2
      have npq2 : p ≠ q2 := ne_of_none iv.hp hq2
      have eq2 : upd G3 q2 (.lst [.int d2, .int d3]) q2 = some (.lst [.int d2, .int d3]) := upd_same
      replace iv := iv.same (Same.new (o := .lst [.int d2, .int d3]) hq2)
      generalize upd G3 q2 (.lst [.int d2, .int d3]) = G6 at iv eq2 ⊢
      wtm_at "ev_go"
      have e91' : d1 < 10 ^ 6 := e91
      have e93' : d3 < 10 ^ 20 := e93
      obtain ⟨y, hy, by0, by9⟩ : ∃ y : Int, atI [V.int d2, V.int d3] ((0 + (i : Int)) / 2) = some (V.int y) ∧ 0 ≤ y ∧ y < 10 ^ 20 := by
        have hi4 : i < 4 := by omega
        rcases (show i = 0 ∨ i = 1 ∨ i = 2 ∨ i = 3 by omega) with rfl | rfl | rfl | rfl
        · exact ⟨_, rfl, by omega, by omega⟩
        · exact ⟨_, rfl, by omega, by omega⟩
        · exact ⟨_, rfl, by omega, by omega⟩
        · exact ⟨_, rfl, by omega, by omega⟩
      refine rd_ixL (SqL.of eq2) hy ?_
      clear hy eq2
      wtm_at "ev_go"
      refine rd_tyL (SqL.of iv.lt) ?_
      wtm_at "ev_go"
      refine ⟨ts, A, B, ph, d1, 1 + y, rfl, iv.sh, by omega, by omega, by omega, by omega, by omega, by omega, ?_⟩
      wtm_at "ev_go"
      intro a ha
      have ea : upd G6 a (.tup [.int d1, .int (1 + y), .int (evH A B ph (d1 + (1 + y)) - evH A B ph d1)]) a = some (.tup [.int d1, .int (1 + y), .int (evH A B ph (d1 + (1 + y)) - evH A B ph d1)]) := upd_same
      replace iv := iv.same (Same.new (o := .tup [.int d1, .int (1 + y), .int (evH A B ph (d1 + (1 + y)) - evH A B ph d1)]) ha)
      generalize upd G6 a (.tup [.int d1, .int (1 + y), .int (evH A B ph (d1 + (1 + y)) - evH A B ph d1)]) = G7 at iv ea ⊢
      wtm_at "ev_go"
      have lk := iv.hk.1
      have rkn := rk.n
      refine rd_append iv.lt (by omega) ?_
      refine ⟨_, _, _, _, _, _, rfl, iv.add (k := (d1, 1 + y, evH A B ph (d1 + (1 + y)) - evH A B ph d1)) ea, hL'.le (by omega), ⟨by rw [List.length_append, List.length_singleton]; omega, fun k' m => ?_⟩⟩
      rcases List.mem_append.mp m with m | m
      · exact rk.k k' m
      · rw [List.mem_singleton.mp m]
        exact ⟨by show d1.natAbs ≤ _; omega, by show 1 ≤ 1 + y; omega, by show 1 + y ≤ _; omega, rfl⟩
    · rintro σ' H' ⟨x4, x5, x6, KL, L', kl, rfl, iv, hL', rk⟩
      wtm_at "ev_go"
      exact q tl ph KL L' kl _ iv.fr iv.hp (hL'.le (by omega)) iv.lt iv.t0 iv.hk ⟨by have := rk.n; omega, rk.k⟩ ph0 ph9
end
end

end
section
theorem Sh.big {i : Int} (h : i.natAbs < 10 ^ 40) : Sh (.int i) 41 0 := by
  refine ⟨?_, by simp only [PyData.hasDict], by simp [PyData.depth], ?_⟩
  · have hb : i.natAbs.log2 < 1920 := by
      have e : (10 : Nat) ^ 40 < 2 ^ 1900 := by decide +kernel
      exact Nat.lt_of_lt_of_le (PySem.Flt.log2_lt_of (by decide) (Nat.lt_trans h e)) (by decide)
    simpa [PyData.showable] using hb
  · have e : (PyData.int i).shown = Str.ofString (toString i) := by simp only [PyData.shown]
    rw [e, PySem.ofString_length]
    exact int_text_length_le10 (by decide) h
theorem Shared.nc {lo hi : Int} {rs : List R3} (h : Shared lo hi rs) (wide : Wide1 ((1, lo, hi) :: rs)) : NoConf ((1, lo, hi) :: rs) := by
  obtain ⟨o, u, hu, a1, a2, a⟩ := h
  have al : ∀ r ∈ (1, lo, hi) :: rs, r.2.1 * u ≤ o * r.1 ∧ o * r.1 ≤ r.2.2 * u := fun r hr => by
    rcases List.mem_cons.mp hr with rfl | hr
    · exact ⟨by show lo * u ≤ o * 1; omega, by show o * 1 ≤ hi * u; omega⟩
    · have := a r hr
      rw [Int.mul_comm o r.1]
      exact this
  exact fun r hr s hs => mul_chain hu (by have := wide r hr; omega) (by have := wide s hs; omega) (al r hr).1 (al s hs).2
theorem rd_neTT {K : PySem.W.Frag} {H : Hp} {a b : Addr} {x y u v : Int} {Q : VK} (ha : H a = some (.tup [.int x, .int y])) (hb : H b = some (.tup [.int u, .int v])) (q : Q (.bl (!(decide (x = u) && decide (y = v)))) H) : rNeD K (.ref a) (.ref b) H Q := by
  refine ⟨.tuple [.int x, .int y], .tuple [.int u, .int v], .tup (SqT.of ha) (.cons (.int _) (.cons (.int _) .nil)), .tup (SqT.of hb) (.cons (.int _) (.cons (.int _) .nil)), rfl, rfl, ?_⟩
  have e : PyData.eqv (.tuple [.int x, .int y]) (.tuple [.int u, .int v]) = (decide (x = u) && decide (y = v)) := by
    simp [PyData.eqv, PyData.eqvAll, Bool.beq_eq_decide_eq]
  rw [e]
  exact q
theorem rd_eqTT {K : PySem.W.Frag} {H : Hp} {a b : Addr} {x y u v : Int} {Q : VK} (ha : H a = some (.tup [.int x, .int y])) (hb : H b = some (.tup [.int u, .int v])) (q : Q (.bl (decide (x = u) && decide (y = v))) H) : rEqD K (.ref a) (.ref b) H Q := by
  refine ⟨.tuple [.int x, .int y], .tuple [.int u, .int v], .tup (SqT.of ha) (.cons (.int _) (.cons (.int _) .nil)), .tup (SqT.of hb) (.cons (.int _) (.cons (.int _) .nil)), rfl, rfl, ?_⟩
  have e : PyData.eqv (.tuple [.int x, .int y]) (.tuple [.int u, .int v]) = (decide (x = u) && decide (y = v)) := by
    simp [PyData.eqv, PyData.eqvAll, Bool.beq_eq_decide_eq]
  rw [e]
  exact q

theorem rd_ne0 {K : PySem.W.Frag} {H : Hp} {a b : Addr} {Q : VK} (ha : H a = some (.lst [])) (hb : H b = some (.lst [])) (q : Q (.bl false) H) : rNeD K (.ref a) (.ref b) H Q := by
  refine ⟨.list [], .list [], .lst (SqL.of ha) .nil, .lst (SqL.of hb) .nil, rfl, rfl, ?_⟩
  have e : PyData.eqv (.list []) (.list []) = true := by simp [PyData.eqv, PyData.eqvAll]
  rw [e]
  exact q
theorem rd_ne1 {K : PySem.W.Frag} {H : Hp} {a b : Addr} {x y : Int} {Q : VK} (ha : H a = some (.lst [.int x])) (hb : H b = some (.lst [.int y])) (q : Q (.bl (!decide (x = y))) H) : rNeD K (.ref a) (.ref b) H Q := by
  refine ⟨.list [.int x], .list [.int y], .lst (SqL.of ha) (.cons (.int _) .nil), .lst (SqL.of hb) (.cons (.int _) .nil), rfl, rfl, ?_⟩
  have e : PyData.eqv (.list [.int x]) (.list [.int y]) = decide (x = y) := by simp [PyData.eqv, PyData.eqvAll, Bool.beq_eq_decide_eq]
  rw [e]
  exact q
theorem R3L.rev {H : Hp} {L : List V} {rs : List R3} (h : R3L H L rs) : R3L H L.reverse rs.reverse := by
  refine ⟨by rw [List.length_reverse, List.length_reverse, h.1], fun i v e => ?_⟩
  have hi := (List.getElem?_eq_some_iff.mp e).1
  rw [List.length_reverse] at hi
  rw [List.getElem?_reverse hi] at e
  obtain ⟨a, r, h1, h2, h3⟩ := h.2 _ v e
  exact ⟨a, r, h1, by rw [List.getElem?_reverse (by rw [← h.1]; exact hi), ← h.1]; exact h2, h3⟩
theorem R3L.take {H : Hp} {L : List V} {rs : List (Int × Int × Int)} (k : Nat) (h : R3L H L rs) : R3L H (L.take k) (rs.take k) := by
  refine ⟨by rw [List.length_take, List.length_take, h.1], fun i v e => ?_⟩
  rw [List.getElem?_take] at e
  by_cases hi : i < k
  · rw [if_pos hi] at e
    obtain ⟨a, r, h1, h2, h3⟩ := h.2 i v e
    exact ⟨a, r, h1, by rw [List.getElem?_take, if_pos hi]; exact h2, h3⟩
  · rw [if_neg hi] at e
    cases e
theorem farK {A B ph far many : Int} {kl : List R3} (h : RowK A B ph far many kl) (f9 : far ≤ 10 ^ 30) (f0 : 1 ≤ far) : FarB kl := fun k m => by
  have := h.k k m
  omega
theorem row_tie {A B ph far many : Int} {kl Bs : List R3} (h : RowK A B ph far many kl) (hm : Mean A B Bs) : RowT (upS Bs) (dnS Bs) (kl.map tieOf) (evH A B ph) := ev_rowt hm fun k m => by
  obtain ⟨q, mq, rfl⟩ := List.mem_map.mp m
  exact (h.k q mq).2.2.2
theorem RowK.sub {A B ph far many many' : Int} {kl kl' : List R3} (h : RowK A B ph far many kl) (s : ∀ k ∈ kl', k ∈ kl) (n : (kl'.length : Int) ≤ many') : RowK A B ph far many' kl' := ⟨n, fun k m => h.k k (s k m)⟩
theorem map_sub {kl kl' : List R3} (s : ∀ k ∈ kl', k ∈ kl) : ∀ k ∈ kl'.map tieOf, k ∈ kl.map tieOf := fun k m => by
  obtain ⟨q, mq, rfl⟩ := List.mem_map.mp m
  exact List.mem_map.mpr ⟨q, s q mq, rfl⟩

/-- the first known sum that does not go together with those ahead of it is one -/
theorem first_at {us ds : List (Int × Int)} {kl : List R3} {i j : Nat} (z1 : Cons us ds ((kl.take i).map tieOf)) (z2 : ¬ Cons us ds ((kl.take (i + 1)).map tieOf)) (c1 : Cons us ds ((kl.take j).map tieOf)) (c2 : ¬ Cons us ds ((kl.take (j + 1)).map tieOf)) : i = j := by
  have tk : ∀ a b : Nat, a ≤ b → ∀ k ∈ kl.take a, k ∈ kl.take b := fun a b l k m => (List.take_subset_take_left kl l) m
  rcases Nat.lt_trichotomy i j with h | h | h
  · exact absurd (c1.less (map_sub (tk _ _ (by omega)))) z2
  · exact h
  · exact absurd (z1.less (map_sub (tk _ _ (by omega)))) c2

/-- no stretch has more than its days, or less -/
theorem lw_day {lo hi m : Int} {rs : List (Int × Int × Int)} {K : List (Int × Int × Int)} {x y c : Int} (h : LW (upS ((1, lo, hi) :: rs)) (dnS ((1, lo, hi) :: rs)) K x y c) (le : x ≤ y) (b : hi ≤ m) : c ≤ (y - x) * m := by
  refine Int.le_trans (h.2 _ (Way.of (c := (y - x) * hi) ?_)) (Int.mul_le_mul_of_nonneg_left b (by omega))
  have := Wg.rep (us := upS ((1, lo, hi) :: rs)) (ds := dnS ((1, lo, hi) :: rs)) (s := (1, hi)) (by first | exact List.mem_cons_self | simp [upS]) (y - x).toNat
  rw [Int.mul_one, Int.toNat_of_nonneg (by omega)] at this
  exact this
theorem lw_back {lo hi m : Int} {rs : List (Int × Int × Int)} {K : List (Int × Int × Int)} {x y c : Int} (h : LW (upS ((1, lo, hi) :: rs)) (dnS ((1, lo, hi) :: rs)) K y x c) (le : x ≤ y) (b : -lo ≤ m) : c ≤ (y - x) * m := by
  refine Int.le_trans (h.2 _ (Way.of (c := (y - x) * -lo) ?_)) (Int.mul_le_mul_of_nonneg_left b (by omega))
  have := Wg.rep (us := dnS ((1, lo, hi) :: rs)) (ds := upS ((1, lo, hi) :: rs)) (s := (1, -lo)) (by first | exact List.mem_cons_self | simp [dnS]) (y - x).toNat
  rw [Int.mul_one, Int.toNat_of_nonneg (by omega)] at this
  have := this.swap
  rw [show -(y - x) = x - y by omega] at this
  exact this
theorem fine_nc {lo hi : Int} {rs : List R3} (w : Wide1 ((1, lo, hi) :: rs)) (nc : NoConf ((1, lo, hi) :: rs)) : Fine rs := fun j r e => by
  have hm : r ∈ (1, lo, hi) :: rs := List.mem_cons_of_mem _ (List.mem_of_getElem? e)
  have w1 := w r hm
  have := Int.le_of_mul_le_mul_right (nc r hm r hm) (show 0 < r.1 by omega)
  unfold okR
  rw [decide_eq_true w1, decide_eq_true this]
  rfl
theorem strict_rows {lo hi : Int} {rs : List R3} {z few more : Int} (h : Rw ((1, lo, hi) :: rs)) (z1 : 1 ≤ z) (fm : few ≤ more) (a : ∀ s ∈ (1, lo, hi) :: rs, few * s.1 ≤ s.2.2 * z) (b : ∀ s ∈ (1, lo, hi) :: rs, s.2.1 * z ≤ more * s.1) : NoConf ((1, lo, hi) :: (rs ++ [(z, few, more)])) := by
  have cs : ∀ q ∈ (1, lo, hi) :: (rs ++ [(z, few, more)]), q ∈ (1, lo, hi) :: rs ∨ q = (z, few, more) := fun q hq => by
    rcases List.mem_cons.mp hq with w | w
    · exact .inl (w ▸ List.mem_cons_self)
    · rcases List.mem_append.mp w with w | w
      · exact .inl (List.mem_cons_of_mem _ w)
      · exact .inr (List.mem_singleton.mp w)
  intro q hq t ht
  rcases cs q hq with h1 | rfl
  · rcases cs t ht with h2 | rfl
    · exact h.nc q h1 t h2
    · exact b q h1
  · rcases cs t ht with h2 | rfl
    · exact a t h2
    · exact Int.mul_le_mul_of_nonneg_right fm (by omega)
theorem strL_rows {lo hi : Int} {rs : List R3} {z more : Int} (h : Rw ((1, lo, hi) :: rs)) (z1 : 1 ≤ z) (fm : strL lo hi rs z ≤ more) (b : ∀ s ∈ (1, lo, hi) :: rs, s.2.1 * z ≤ more * s.1) : NoConf ((1, lo, hi) :: (rs ++ [(z, strL lo hi rs z, more)])) := by
  obtain ⟨⟨q, hq, eq⟩, al⟩ := low_is (1, lo, hi) rs h.w
  have p : 0 < (lowM (1, lo, hi) rs).2 := by rw [eq]; have := h.w q hq; show 0 < q.1; omega
  refine strict_rows h z1 fm (fun s hs => ?_) b
  have := h.w s hs
  exact mul_chain p (by omega) (by omega) (Int.ediv_mul_le _ (by omega)) (al s hs)
theorem strL_none {lo hi : Int} {rs : List R3} {z more : Int} (h : Rw ((1, lo, hi) :: rs)) (z1 : 1 ≤ z) : ¬ NoConf ((1, lo, hi) :: (rs ++ [(z, strL lo hi rs z + 1, more)])) := fun nc => by
  obtain ⟨⟨q, hq, eq⟩, al⟩ := low_is (1, lo, hi) rs h.w
  have p : 0 < (lowM (1, lo, hi) rs).2 := by rw [eq]; have := h.w q hq; show 0 < q.1; omega
  have c := nc (z, strL lo hi rs z + 1, more) (List.mem_cons_of_mem _ (List.mem_append_right _ (List.mem_singleton.mpr rfl))) q (by
    rcases List.mem_cons.mp hq with w | w
    · exact w ▸ List.mem_cons_self
    · exact List.mem_cons_of_mem _ (List.mem_append_left _ w))
  have d := Int.lt_ediv_add_one_mul_self ((lowM (1, lo, hi) rs).1 * z) p
  have c : (strL lo hi rs z + 1) * q.1 ≤ q.2.2 * z := c
  unfold strL at c
  rw [eq] at c d
  have c : (q.2.2 * z / q.1 + 1) * q.1 ≤ q.2.2 * z := c
  have d : q.2.2 * z < (q.2.2 * z / q.1 + 1) * q.1 := d
  omega
theorem strM_rows {lo hi : Int} {rs : List R3} {z few : Int} (h : Rw ((1, lo, hi) :: rs)) (z1 : 1 ≤ z) (fm : few ≤ strM lo hi rs z) (a : ∀ s ∈ (1, lo, hi) :: rs, few * s.1 ≤ s.2.2 * z) : NoConf ((1, lo, hi) :: (rs ++ [(z, few, strM lo hi rs z)])) := by
  obtain ⟨⟨q, hq, eq⟩, al⟩ := high_is (1, lo, hi) rs h.w
  have p : 0 < (highM (1, lo, hi) rs).2 := by rw [eq]; have := h.w q hq; show 0 < q.1; omega
  refine strict_rows h z1 fm a (fun s hs => ?_)
  have := h.w s hs
  have d := Int.ediv_mul_le (-(highM (1, lo, hi) rs).1 * z) (show (highM (1, lo, hi) rs).2 ≠ 0 by omega)
  refine mul_chain p (by omega) (by omega) (al s hs) ?_
  unfold strM
  rw [Int.neg_mul] at d ⊢
  rw [Int.neg_mul]
  omega

theorem strL_in {lo hi z : Int} {rs : List R3} (h : Rw ((1, lo, hi) :: rs)) (z0 : 0 ≤ z) : z * lo ≤ strL lo hi rs z ∧ strL lo hi rs z ≤ z * hi := by
  obtain ⟨⟨q, hq, e⟩, al⟩ := low_is (1, lo, hi) rs h.w
  have q1 := h.w q hq
  have a1 : q.2.2 * 1 ≤ hi * q.1 := by have := al (1, lo, hi) List.mem_cons_self; rw [e] at this; exact this
  have a2 : lo * q.1 ≤ q.2.2 * 1 := h.nc (1, lo, hi) List.mem_cons_self q hq
  unfold strL
  rw [e]
  show z * lo ≤ q.2.2 * z / q.1 ∧ q.2.2 * z / q.1 ≤ z * hi
  have b1 := Int.mul_le_mul_of_nonneg_right (show q.2.2 ≤ hi * q.1 by omega) z0
  have b2 := Int.mul_le_mul_of_nonneg_right (show lo * q.1 ≤ q.2.2 by omega) z0
  refine ⟨(Int.le_ediv_iff_mul_le (by omega)).mpr ?_, Int.le_trans (Int.ediv_le_ediv (by omega) b1) ?_⟩
  · rw [Int.mul_comm z, Int.mul_right_comm]; exact b2
  · rw [Int.mul_right_comm, Int.mul_ediv_cancel _ (by omega), Int.mul_comm]
    exact Int.le_refl _
theorem strM_in {lo hi z : Int} {rs : List R3} (h : Rw ((1, lo, hi) :: rs)) (z0 : 0 ≤ z) : z * lo ≤ strM lo hi rs z ∧ strM lo hi rs z ≤ z * hi := by
  obtain ⟨⟨q, hq, e⟩, al⟩ := high_is (1, lo, hi) rs h.w
  have q1 := h.w q hq
  have a1 : lo * q.1 ≤ q.2.1 * 1 := by have := al (1, lo, hi) List.mem_cons_self; rw [e] at this; exact this
  have a2 : q.2.1 * 1 ≤ hi * q.1 := h.nc q hq (1, lo, hi) List.mem_cons_self
  unfold strM
  rw [e]
  show z * lo ≤ -(-q.2.1 * z / q.1) ∧ -(-q.2.1 * z / q.1) ≤ z * hi
  have b1 := Int.mul_le_mul_of_nonneg_right (show -q.2.1 ≤ -lo * q.1 by rw [Int.neg_mul]; omega) z0
  have b2 := Int.mul_le_mul_of_nonneg_right (show -hi * q.1 ≤ -q.2.1 by rw [Int.neg_mul]; omega) z0
  have c1 := Int.ediv_le_ediv (show 0 < q.1 by omega) b1
  rw [Int.mul_right_comm, Int.mul_ediv_cancel _ (by omega)] at c1
  have c2 : -hi * z ≤ -q.2.1 * z / q.1 := (Int.le_ediv_iff_mul_le (by omega)).mpr (by rw [Int.mul_right_comm]; exact b2)
  generalize -q.2.1 * z / q.1 = y at c1 c2 ⊢
  rw [Int.neg_mul] at c1 c2
  rw [Int.mul_comm z, Int.mul_comm z]
  omega
theorem fine_more {lo hi : Int} {rs : List R3} {r : R3} (h : Rw ((1, lo, hi) :: rs)) (r1 : 1 ≤ r.1) (r2 : r.2.1 ≤ r.2.2) : Fine (rs ++ [r]) := fun j q e => by
  rcases List.mem_append.mp (List.mem_of_getElem? e) with w | w
  · obtain ⟨i, hi⟩ := List.getElem?_of_mem w
    exact fine_nc h.w h.nc i q hi
  · rw [List.mem_singleton.mp w]
    unfold okR
    rw [decide_eq_true r1, decide_eq_true r2]
    rfl
theorem low_under {lo hi z few : Int} {rs : List R3} (h : Rw ((1, lo, hi) :: rs)) (z1 : 1 ≤ z) : lowM (1, lo, hi) (rs ++ [(z, few, z * hi)]) = lowM (1, lo, hi) rs := lowM_app (by
  obtain ⟨_, al⟩ := low_is (1, lo, hi) rs h.w
  have a1 : (lowM (1, lo, hi) rs).1 * 1 ≤ hi * (lowM (1, lo, hi) rs).2 := al (1, lo, hi) List.mem_cons_self
  show (lowM (1, lo, hi) rs).1 * z ≤ z * hi * (lowM (1, lo, hi) rs).2
  have := Int.mul_le_mul_of_nonneg_right (show (lowM (1, lo, hi) rs).1 ≤ hi * (lowM (1, lo, hi) rs).2 by omega) (show 0 ≤ z by omega)
  rw [show z * hi * (lowM (1, lo, hi) rs).2 = hi * (lowM (1, lo, hi) rs).2 * z by rw [Int.mul_comm z, Int.mul_right_comm]]
  exact this)
theorem high_over {lo hi z more : Int} {rs : List R3} (h : Rw ((1, lo, hi) :: rs)) (z1 : 1 ≤ z) : highM (1, lo, hi) (rs ++ [(z, z * lo, more)]) = highM (1, lo, hi) rs := highM_app (by
  obtain ⟨_, al⟩ := high_is (1, lo, hi) rs h.w
  have a1 : lo * (highM (1, lo, hi) rs).2 ≤ (highM (1, lo, hi) rs).1 * 1 := al (1, lo, hi) List.mem_cons_self
  show z * lo * (highM (1, lo, hi) rs).2 ≤ (highM (1, lo, hi) rs).1 * z
  have := Int.mul_le_mul_of_nonneg_right (show lo * (highM (1, lo, hi) rs).2 ≤ (highM (1, lo, hi) rs).1 by omega) (show 0 ≤ z by omega)
  rw [show z * lo * (highM (1, lo, hi) rs).2 = lo * (highM (1, lo, hi) rs).2 * z by rw [Int.mul_comm z, Int.mul_right_comm]]
  exact this)

theorem two_div {a b z : Int} (h : 0 < b) : 2 * (a * z / b) ≤ a * (2 * z) / b := by
  refine (Int.le_ediv_iff_mul_le h).mpr ?_
  have := Int.ediv_mul_le (a * z) (show b ≠ 0 by omega)
  rw [Int.mul_assoc, Int.mul_left_comm a]
  omega
theorem strL_two {lo hi z : Int} {rs : List R3} (h : Rw ((1, lo, hi) :: rs)) : 2 * strL lo hi rs z ≤ strL lo hi rs (2 * z) := by
  obtain ⟨⟨q, hq, e⟩, al⟩ := low_is (1, lo, hi) rs h.w
  have q1 := h.w q hq
  unfold strL
  rw [e]
  exact two_div (show 0 < q.1 by omega)
theorem strM_two {lo hi z : Int} {rs : List R3} (h : Rw ((1, lo, hi) :: rs)) : strM lo hi rs (2 * z) ≤ 2 * strM lo hi rs z := by
  obtain ⟨⟨q, hq, e⟩, al⟩ := high_is (1, lo, hi) rs h.w
  have q1 := h.w q hq
  unfold strM
  rw [e]
  have := two_div (a := -q.2.1) (z := z) (show 0 < q.1 by omega)
  show -(-q.2.1 * (2 * z) / q.1) ≤ 2 * -(-q.2.1 * z / q.1)
  omega

theorem rd_neNN {K : PySem.W.Frag} {H : Hp} {a b : Addr} {Q : VK} (ha : H a = some (.lst [.non, .non])) (hb : H b = some (.lst [.non, .non])) (q : Q (.bl false) H) : rNeD K (.ref a) (.ref b) H Q := by
  refine ⟨.list [.none, .none], .list [.none, .none], .lst (SqL.of ha) (.cons .non (.cons .non .nil)), .lst (SqL.of hb) (.cons .non (.cons .non .nil)), rfl, rfl, ?_⟩
  have e : PyData.eqv (.list [.none, .none]) (.list [.none, .none]) = true := by simp [PyData.eqv, PyData.eqvAll]
  rw [e]
  exact q

def spRight : Sp := fun vs H Q _ => ∃ (p : Addr) (L : List V) (n : Int), vs = [.ref p] ∧ H p = some (.lst L) ∧ PoolL L n ∧ n ≤ 100000 ∧ ∀ (H' : Hp) (L' : List V), Fr p H H' → H' p = some (.lst L') → PoolL L' (n + 3000) → Q (.bl true) H'
section
variable {P : Program} {w : World} {K : PySem.W.Frag} {mg : Str → Option Value} {base : Heap}
variable {fI cD cR cB fB fN cM cS cW cL cT cC fFW fSS fGs fLs fSh fSl fSm : Addr}
set_option maxHeartbeats 8000000 in
theorem ok_right {f : Addr} {fd fdW fdS fdG fdL fdH fdN fdSl fdSm : FuncData} (F : Fun K "_law_right" "_law_right" s_right f fd) (T : TxB K mg fI cD cR cB fB fN) (GD : CalN P w K mg base 1 "_law_draw" spDraw) (GK : CalN P w K mg base 2 "_law_kind" spKind) (GM : CalN P w K mg base 6 "_law_made" (spMade cB))
    (GN : FnOk P w K mg base (L2.CX P w) 4 fN fdN ["self", "low", "high", "rules"] (spBook cB cD cR)) (bN : Binds K fdN ["self", "low", "high", "rules"] []) (GLS : CalN P w K mg base 1 "_law_shares" spShares) (GTO : CalN P w K mg base 2 "_law_ties_of" spTO)
    (GgS : CalX P w K mg base 6 "greatest_sum" fGs fdG ["book", "length"] (spGS cB cM cS cW cL true)) (GlS : CalX P w K mg base 6 "least_sum" fLs fdL ["book", "length"] (spGS cB cM cS cW cL false)) (GSh : CalX P w K mg base 4 "shares" fSh fdH ["book"] (spSh cB cW))
    (GSl : CalX P w K mg base 4 "strictest_least" fSl fdSl ["book", "width"] (spStr cB cW cL strL)) (GSm : CalX P w K mg base 4 "strictest_most" fSm fdSm ["book", "width"] (spStr cB cW cL strM))
    (GFW : CalX P w K mg base 8 "first_wrong" fFW fdW ["book", "known"] (spFW cB cM cS cT)) (GSS : CalX P w K mg base 9 "sure_sums" fSS fdS ["book", "known", "begin", "length"] (spSS cB cM cS cT cC)) : FnG P w K mg base CX0 10 f fd ["pool"] spRight := by
  refine fnG_of F sc_right (fun vs H Q E h => ?_) (fun cdv A outer s H vs Q E hgu hr h => ?_)
  · obtain ⟨p, L, n, rfl, _⟩ := h
    rfl
  · obtain ⟨p, L, nn, rfl, hp, hL, hn, k⟩ := h
    refine ⟨_, (pss_cons (ps_set (i := 1) sc_right.nd rfl (Or.inl rfl) (pe_cN GK hr (by decide) (by rfl) (pa_cons (pv 0) (pa_cons pe_int (pa_cons pe_int pa_nil)))))
      (pss_cons (ps_par (i := 2) (j := 3) (by rfl) sc_right.nd rfl rfl (by decide) rfl rfl (pa_cons (pe_cN GM hr (by decide) (by rfl) (pa_cons (pv 1) pa_nil)) (pa_cons (pe_op op_add pe_int (pe_cN GD hr (by decide) (by rfl) (pa_cons (pv 0) (pa_cons pe_int pa_nil)))) pa_nil)) (by rfl))
      (pss_cons (ps_asg (pe_cN GLS hr (by decide) (by rfl) (pa_cons (pv 1) pa_nil)) (pg_tup rfl (pgs_cons (pg_name (i := 4) sc_right.nd rfl (Or.inl rfl)) (pgs_cons (pg_name (i := 5) sc_right.nd rfl (Or.inl rfl)) pgs_nil))))
      (pss_cons (ps_par (i := 6) (j := 7) (by rfl) sc_right.nd rfl rfl (by decide) rfl rfl (pa_cons (pe_cX GSl hr (by decide) L2.passL (by rfl) (pa_cons (pv 2) (pa_cons (pv 3) pa_nil))) (pa_cons (pe_cX GSm hr (by decide) L2.passL (by rfl) (pa_cons (pv 2) (pa_cons (pv 3) pa_nil))) pa_nil)) (by rfl))
      (pss_cons (ps_set (i := 8) sc_right.nd rfl (Or.inl rfl) (pe_make T.mB2 GN (hr.mono (by decide)) (by rfl) T.gB bN .nil L2.passL (pa_cons (pe_ix ix_tup (pv 1) pe_int (fun _ _ => rfl)) (pa_cons (pe_ix ix_tup (pv 1) pe_int (fun _ _ => rfl)) (pa_cons (pe_op op_cat (pe_ix ix_tup (pv 1) pe_int (fun _ _ => rfl)) (pe_lst (pa_cons (pe_tup (pa_cons (pv 3) (pa_cons (pv 6) (pa_cons (pe_op op_mulW (pv 3) (pe_ix ix_tup (pv 1) pe_int (fun _ _ => rfl))) pa_nil)))) pa_nil))) pa_nil)))))
      (pss_cons (ps_set (i := 9) sc_right.nd rfl (Or.inl rfl) (pe_make T.mB2 GN (hr.mono (by decide)) (by rfl) T.gB bN .nil L2.passL (pa_cons (pe_ix ix_tup (pv 1) pe_int (fun _ _ => rfl)) (pa_cons (pe_ix ix_tup (pv 1) pe_int (fun _ _ => rfl)) (pa_cons (pe_op op_cat (pe_ix ix_tup (pv 1) pe_int (fun _ _ => rfl)) (pe_lst (pa_cons (pe_tup (pa_cons (pv 3) (pa_cons (pe_op op_mulW (pv 3) (pe_ix ix_tup (pv 1) pe_int (fun _ _ => rfl))) (pa_cons (pv 7) pa_nil)))) pa_nil))) pa_nil)))))
      (pss_cons (ps_set (i := 10) sc_right.nd rfl (Or.inl rfl) (pe_lst (pa_cons (pe_cX GFW hr (by decide) L2.passL (by rfl) (pa_cons (pv 8) (pa_cons (pe_cN GTO hr (by decide) (by rfl) (pa_cons (pv 0) (pa_cons (pv 5) pa_nil))) pa_nil))) (pa_cons (pe_cX GFW hr (by decide) L2.passL (by rfl) (pa_cons (pv 9) (pa_cons (pe_cN GTO hr (by decide) (by rfl) (pa_cons (pv 0) (pa_cons (pv 4) pa_nil))) pa_nil))) pa_nil))))
      (pss_cons (ps_if (pt_cmpR (op_neD (hun64 hr)) (pv 10) (pe_lst (pa_cons pe_non (pa_cons pe_non pa_nil))) (nomark _)) 
        (pss_one (ps_ret pe_bl)) pss_nil)
      (pss_cons (ps_if (pw_or (pt_cmpR op_ne (pe_cX GFW hr (by decide) L2.passL (by rfl) (pa_cons (pv 8) (pa_cons (pe_lst (pa_cons (pe_tup (pa_cons pe_int (pa_cons (pv 3) (pa_cons (pe_op op_sub (pv 6) pe_int) pa_nil)))) pa_nil)) pa_nil))) pe_int (nomark _)) (pw_or1 (pt_cmpR op_ne (pe_cX GFW hr (by decide) L2.passL (by rfl) (pa_cons (pv 9) (pa_cons (pe_lst (pa_cons (pe_tup (pa_cons pe_int (pa_cons (pv 3) (pa_cons (pe_op op_add (pv 7) pe_int) pa_nil)))) pa_nil)) pa_nil))) pe_int (nomark _)))).pt 
        (pss_one (ps_ret pe_bl)) pss_nil)
      (pss_cons (ps_if (pw_or (pt_cmpR op_lt (pe_cX GlS hr (by decide) L2.passL (by rfl) (pa_cons (pv 8) (pa_cons (pv 3) pa_nil))) (pv 6) (nomark _)) (pw_or1 (pt_cmpR op_gt (pe_cX GgS hr (by decide) L2.passL (by rfl) (pa_cons (pv 9) (pa_cons (pv 3) pa_nil))) (pv 7) (nomark _)))).pt 
        (pss_one (ps_ret pe_bl)) pss_nil)
      (pss_cons (ps_if (pw_or (pt_cmpR (op_neD (hun64 hr)) (pe_ix ix_tup (pe_cX GSh hr (by decide) L2.passL (by rfl) (pa_cons (pv 8) pa_nil)) pe_int (fun _ _ => rfl)) (pe_ix ix_tup (pe_cX GSh hr (by decide) L2.passL (by rfl) (pa_cons (pv 2) pa_nil)) pe_int (fun _ _ => rfl)) (nomark _)) (pw_or1 (pt_cmpR (op_neD (hun64 hr)) (pe_ix ix_tup (pe_cX GSh hr (by decide) L2.passL (by rfl) (pa_cons (pv 9) pa_nil)) pe_int (fun _ _ => rfl)) (pe_ix ix_tup (pe_cX GSh hr (by decide) L2.passL (by rfl) (pa_cons (pv 2) pa_nil)) pe_int (fun _ _ => rfl)) (nomark _)))).pt 
        (pss_one (ps_ret pe_bl)) pss_nil)
      (pss_cons (ps_if (pw_or (pt_cmpR op_ne (pe_cX GSl hr (by decide) L2.passL (by rfl) (pa_cons (pv 8) (pa_cons (pv 3) pa_nil))) (pv 6) (nomark _)) (pw_or1 (pt_cmpR op_ne (pe_cX GSm hr (by decide) L2.passL (by rfl) (pa_cons (pv 9) (pa_cons (pv 3) pa_nil))) (pv 7) (nomark _)))).pt 
        (pss_one (ps_ret pe_bl)) pss_nil)
      (pss_cons (ps_set (i := 11) sc_right.nd rfl (Or.inl rfl) (pe_cX GSS hr (by decide) L2.passL (by rfl) (pa_cons (pv 8) (pa_cons (pe_lst pa_nil) (pa_cons pe_int (pa_cons (pv 3) pa_nil))))))
      (pss_cons (ps_if (pt_cmpR op_gt (pv 3) pe_int (nomark _)) 
        (pss_one (ps_ret (pe_cmpR op_ge (pe_ix ix_tup (pv 11) pe_int (fun _ _ => rfl)) (pv 6) (nomark _)))) pss_nil)
      (pss_one (ps_ret (pe_and (pe_cmpR op_le (pe_op op_mulW pe_int (pv 6)) (pe_cX GSl hr (by decide) L2.passL (by rfl) (pa_cons (pv 2) (pa_cons (pe_op op_mulW pe_int (pv 3)) pa_nil))) (nomark _)) (pe_one (pe_cmpR op_le (pe_cX GSm hr (by decide) L2.passL (by rfl) (pa_cons (pv 2) (pa_cons (pe_op op_mulW pe_int (pv 3)) pa_nil))) (pe_op op_mulW pe_int (pv 7)) (nomark _)))))))))))))))))))), ?_⟩
    have st : St cB cM cS p H H (fun _ => False) L nn [] := .start hp hL
    clear hp hL
    wtm_at "ev_go"
    refine ⟨p, _, _, 10, 3, rfl, st.hp, st.pl, by omega, by decide, by decide, by decide, by decide, fun kdA l L3 R rsA loA hiA J1 fr2 hp3 hL3 hkd nkd hl nl ne hR hlen lo1A lohiA hi1A hW hSh => ?_⟩
    have koA := st.kind nl hkd hl hR
    have st_ := st.frp fr2 hp3 hL3
    clear st
    obtain ⟨st, g⟩ := st_
    have fineA := hSh.fine hW
    have lrsA : rsA.length ≤ 3 := by omega
    have num_lA : Num loA := num_of (by omega)
    have num_hA : Num hiA := num_of (by omega)
    have wideA : Wide1 ((1, loA, hiA) :: rsA) := fineA.wide
    have ncA := hSh.nc wideA
    have rwA_ : Rw ((1, loA, hiA) :: rsA) := ⟨wideA, ncA, loA, hiA, rsA, rfl⟩
    have hW40A : ∀ r ∈ rsA, 1 ≤ r.1 ∧ r.1 ≤ 40 ∧ -1000 ≤ r.2.1 ∧ r.2.1 ≤ 1000 ∧ -1000 ≤ r.2.2 ∧ r.2.2 ≤ 1000 := fun r hr => by
      obtain ⟨a, b, c⟩ := hW r hr
      exact ⟨a, by omega, c⟩
    have nbA : ∀ L' : List V, NumB loA hiA L' rsA := fun L' => ⟨by omega, fun r hr => by
      rcases List.mem_cons.mp hr with rfl | hr
      · exact ⟨by show (1 : Int) ≤ 1; decide, by show (1 : Int) ≤ 100; decide, by show loA.natAbs ≤ _; omega, by show hiA.natAbs ≤ _; omega⟩
      · obtain ⟨a, b, c, d, e, f⟩ := hW40A r hr
        exact ⟨a, by omega, by omega, by omega⟩⟩
    have atA : ∀ {H' : Hp} {ow : Addr → Prop}, KindO p H' ow kdA loA hiA rsA → KindAt H' kdA loA hiA rsA := fun h => h.at_ (by omega) (by omega) (by omega)
    clear fr2 hp3 hL3 hkd nkd hl nl ne hR hW hSh hlen g
    wtm_at "ev_go"
    obtain ⟨l, R1, hkd, hl, hR, nlp, nol⟩ := id koA
    have R11000 : R1.length ≤ 1000 := by rw [hR.1]; omega
    refine ⟨kdA, l, loA, hiA, R1, rsA, rfl, hkd, hl, hR, R11000, num_lA, num_hA, lohiA, fineA, fun a1 la J2 s4 na nla bn => ?_⟩
    have st_ := st.add (k := ⟨a1, loA, hiA, R1, rsA⟩) (o := fun c => c = a1 ∨ c = la) s4 ⟨bn.toS, nbA _, R11000, num_lA, num_hA⟩ (fun c z => by
      rcases z with rfl | rfl
      · exact na
      · exact nla)
    clear st hkd hl hR nlp nol
    obtain ⟨st, g⟩ := st_
    simp only [List.nil_append, List.cons_append] at st
    replace koA := koA.go g
    clear s4 na nla bn g
    wtm_at "ev_go"
    refine rd_draw st.hp st.pl (by omega) (by decide) (by decide +kernel) (fun ds Lds ads bds hLds => ?_)
    have st_ := st.draw hLds
    clear st
    obtain ⟨st, g⟩ := st_
    replace koA := koA.go g
    clear g
    generalize upd J2 p (.lst Lds) = J3 at st koA ⊢
    wtm_at "ev_go"
    obtain ⟨sz, esz, sz1, sz40⟩ : ∃ sz, sz = 1 + ds ∧ 1 ≤ sz ∧ sz ≤ 40 := ⟨_, rfl, by omega, by omega⟩
    rw [← esz]
    clear esz
    have nsz : Num sz := num_of (by omega)
    wtm_at "ev_go"
    obtain ⟨l, R0, hkd, hl, hR, nlp, nol⟩ := id koA
    refine ⟨kdA, l, loA, hiA, R0, rsA, rfl, hkd, hl, hR, num_lA, num_hA, fun qs sl su J4 s4 hqs hsl hsu => ?_⟩
    have st_ := st.same s4
    clear st
    obtain ⟨st, g⟩ := st_
    replace koA := koA.go g
    clear hkd hl hR nlp nol s4 g
    wtm_at "ev_go"
    obtain ⟨oi, ak, oisub, _⟩ := st.ask (i := 0) rfl
    refine ⟨a1, loA, hiA, sz, R1, rsA, rfl, ak.s.at_, ⟨ak.l, num_lA, num_hA, wideA⟩, nsz, fun _ _ J5 s4 => ?_, fun _ h => absurd h (by omega), fun _ i j _ fc => absurd ncA fc.not⟩
    have st_ := st.same s4
    clear st
    obtain ⟨st, g⟩ := st_
    replace koA := koA.go g
    replace hsl := g.t _ _ hsl
    replace hsu := g.t _ _ hsu
    clear s4 g ak oisub
    wtm_at "ev_go"
    obtain ⟨oi, ak, oisub, _⟩ := st.ask (i := 0) rfl
    refine ⟨a1, loA, hiA, sz, R1, rsA, rfl, ak.s.at_, ⟨ak.l, num_lA, num_hA, wideA⟩, nsz, fun _ _ J6 s4 => ?_, fun _ h => absurd h (by omega), fun _ i j _ fc => absurd ncA fc.not⟩
    have st_ := st.same s4
    clear st
    obtain ⟨st, g⟩ := st_
    replace koA := koA.go g
    replace hsl := g.t _ _ hsl
    replace hsu := g.t _ _ hsu
    clear s4 g ak oisub
    wtm_at "ev_go"
    have inL := strL_in rwA_ (show 0 ≤ sz by omega)
    have inM := strM_in rwA_ (show 0 ≤ sz by omega)
    have nc1 := rwA_.nc
    have ncU' := strL_rows rwA_ sz1 (by omega) (fun s hs => by
      have a1 : s.2.1 * 1 ≤ hiA * s.1 := nc1 s hs (1, loA, hiA) List.mem_cons_self
      have a2 := Int.mul_le_mul_of_nonneg_right (show s.2.1 ≤ hiA * s.1 by omega) (show 0 ≤ sz by omega)
      rw [show sz * hiA * s.1 = hiA * s.1 * sz by rw [Int.mul_comm sz, Int.mul_right_comm]]
      exact a2) (more := sz * hiA)
    have ncO' := strM_rows rwA_ sz1 (by omega) (fun s hs => by
      have a1 : loA * s.1 ≤ s.2.2 * 1 := nc1 (1, loA, hiA) List.mem_cons_self s hs
      have a2 := Int.mul_le_mul_of_nonneg_right (show loA * s.1 ≤ s.2.2 by omega) (show 0 ≤ sz by omega)
      rw [show sz * loA * s.1 = loA * s.1 * sz by rw [Int.mul_comm sz, Int.mul_right_comm]]
      exact a2) (few := sz * loA)
    clear nc1
    have p1 : -800 ≤ sz * loA := by have := Int.mul_le_mul_of_nonneg_left lo1A (show 0 ≤ sz by omega); omega
    have p2 : sz * hiA ≤ 800 := by have := Int.mul_le_mul_of_nonneg_left hi1A (show 0 ≤ sz by omega); omega
    have p3 : sz * loA ≤ sz * hiA := Int.mul_le_mul_of_nonneg_left lohiA (by omega)
    obtain ⟨few, efew⟩ : ∃ f, f = strL loA hiA rsA sz := ⟨_, rfl⟩
    obtain ⟨more, emore⟩ : ∃ f, f = strM loA hiA rsA sz := ⟨_, rfl⟩
    rw [← efew] at inL ncU'
    rw [← emore] at inM ncO'
    have lowU := low_under (few := few) rwA_ sz1
    have highO := high_over (more := more) rwA_ sz1
    rw [← efew, ← emore]
    have nfew : Num few := num_of (by omega)
    have nmore : Num more := num_of (by omega)
    have nsh : Num (sz * hiA) := num_of (by omega)
    have nsl : Num (sz * loA) := num_of (by omega)
    have cmh : CMulW sz hiA := nsz.mul num_hA
    have cml : CMulW sz loA := nsz.mul num_lA
    wtm_at "ev_go"
    obtain ⟨oz_, eow⟩ := st.owx
    rw [← eow] at st koA
    clear eow
    obtain ⟨l, R0, hkd, hl, hR0, nlp, nol⟩ := koA
    have lkl : LstO p J6 oz_ l R0 := ⟨hl, nlp, nol⟩
    clear hl nlp nol
    have lR0 := hR0.1
    have lenR0 : R0.length ≤ 3 := by omega
    obtain ⟨rsU, ersU⟩ : ∃ r, r = rsA ++ [(sz, few, sz * hiA)] := ⟨_, rfl⟩
    obtain ⟨rsO, ersO⟩ : ∃ r, r = rsA ++ [(sz, sz * loA, more)] := ⟨_, rfl⟩
    have fineU : Fine rsU := by rw [ersU]; exact fine_more rwA_ sz1 (show few ≤ sz * hiA by omega)
    have fineO : Fine rsO := by rw [ersO]; exact fine_more rwA_ sz1 (show sz * loA ≤ more by omega)
    have ncU : NoConf ((1, loA, hiA) :: rsU) := by rw [ersU]; exact ncU'
    have ncO : NoConf ((1, loA, hiA) :: rsO) := by rw [ersO]; exact ncO'
    have wideU := fineU.wide (lo := loA) (hi := hiA)
    have wideO := fineO.wide (lo := loA) (hi := hiA)
    have rwU : Rw ((1, loA, hiA) :: rsU) := ⟨wideU, ncU, _, _, _, rfl⟩
    have rwO : Rw ((1, loA, hiA) :: rsO) := ⟨wideO, ncO, _, _, _, rfl⟩
    rw [← ersU] at lowU
    rw [← ersO] at highO
    have nbm : ∀ (a b : Int), a.natAbs ≤ 800 → b.natAbs ≤ 800 → ∀ L' : List V, NumB loA hiA L' (rsA ++ [(sz, a, b)]) := fun a b ha hb L' => ⟨by rw [List.length_append, List.length_singleton]; omega, fun r hr => by
      rcases List.mem_cons.mp hr with rfl | hr
      · exact ⟨by show (1 : Int) ≤ 1; decide, by show (1 : Int) ≤ 100; decide, by show loA.natAbs ≤ _; omega, by show hiA.natAbs ≤ _; omega⟩
      · rcases List.mem_append.mp hr with hr | hr
        · obtain ⟨a, b, c, d, e, f⟩ := hW40A r hr
          exact ⟨a, by omega, by omega, by omega⟩
        · rw [List.mem_singleton.mp hr]
          exact ⟨sz1, by show sz ≤ 100; omega, by show a.natAbs ≤ _; omega, by show b.natAbs ≤ _; omega⟩⟩
    have nbU : ∀ L' : List V, NumB loA hiA L' rsU := fun L' => by rw [ersU]; exact nbm _ _ (by omega) (by omega) L'
    have nbO : ∀ L' : List V, NumB loA hiA L' rsO := fun L' => by rw [ersO]; exact nbm _ _ (by omega) (by omega) L'
    clear nbm ncU' ncO'
    wtm_at "ev_go"
    intro t1 ht1
    have et1 : upd J6 t1 (.tup ([V.int sz, V.int few, V.int (sz * hiA)])) t1 = _ := upd_same
    have st_ := st.same (Same.new (o := (.tup ([V.int sz, V.int few, V.int (sz * hiA)]))) ht1)
    clear st
    obtain ⟨st, g⟩ := st_
    replace hsl := g.t _ _ hsl
    replace hsu := g.t _ _ hsu
    replace hkd := g.t _ _ hkd
    replace lkl := lkl.go g
    replace hR0 := g.rlr hR0
    clear g ht1
    generalize upd J6 t1 (.tup ([V.int sz, V.int few, V.int (sz * hiA)])) = J7 at st et1 hsl hsu hkd lkl hR0 ⊢
    wtm_at "ev_go"
    intro q1 hq1
    have lq1 := st.lst hq1 (upd_same (H := J7) (o := (HO.lst ([V.ref t1]))))
    have st_ := st.same (Same.new (o := (.lst ([V.ref t1]))) hq1)
    clear st
    obtain ⟨st, g⟩ := st_
    replace hsl := g.t _ _ hsl
    replace hsu := g.t _ _ hsu
    replace hkd := g.t _ _ hkd
    replace lkl := lkl.go g
    replace hR0 := g.rlr hR0
    replace et1 := g.t _ _ et1
    clear g hq1
    generalize upd J7 q1 (.lst ([V.ref t1])) = J8 at st lq1 hsl hsu hkd lkl hR0 et1 ⊢
    wtm_at "ev_go"
    have elk := lkl.1
    refine rd_cat elk lq1.1 (by simp only [List.length_cons, List.length_nil]; omega) (fun qu hqu => ?_)
    clear elk
    have lqu := st.lst hqu (upd_same (H := J8) (o := (HO.lst ((R0 ++ [V.ref t1])))))
    have st_ := st.same (Same.new (o := (.lst ((R0 ++ [V.ref t1])))) hqu)
    clear st
    obtain ⟨st, g⟩ := st_
    replace hsl := g.t _ _ hsl
    replace hsu := g.t _ _ hsu
    replace hkd := g.t _ _ hkd
    replace lkl := lkl.go g
    replace hR0 := g.rlr hR0
    replace et1 := g.t _ _ et1
    clear g hqu
    generalize upd J8 qu (.lst ((R0 ++ [V.ref t1]))) = J9 at st lqu hsl hsu hkd lkl hR0 et1 ⊢
    wtm_at "ev_go"
    have hRn := hR0.add et1 nsz nfew nsh
    rw [← ersU] at hRn
    have lenn : (R0 ++ [V.ref t1]).length ≤ 1000 := by rw [List.length_append, List.length_singleton]; omega
    refine book_okN lqu.1 hRn lenn (num_lA) (num_hA) lohiA fineU (fun bu la J10 s4 na nla bn => ?_)
    have st_ := st.add (k := ⟨bu, loA, hiA, (R0 ++ [V.ref t1]), rsU⟩) (o := fun c => c = bu ∨ c = la) s4 ⟨bn.toS, nbU _, lenn, (num_lA), (num_hA)⟩ (fun c z => by
      rcases z with rfl | rfl
      · exact na
      · exact nla)
    clear st
    obtain ⟨st, g⟩ := st_
    simp only [List.nil_append, List.cons_append] at st
    replace hsl := g.t _ _ hsl
    replace hsu := g.t _ _ hsu
    replace hkd := g.t _ _ hkd
    replace lkl := lkl.go g
    replace hR0 := g.rlr hR0
    replace lqu := lqu.go g
    clear s4 na nla bn g
    wtm_at "ev_go"
    try clear hRn lenn
    intro t2 ht2
    have et2 : upd J10 t2 (.tup ([V.int sz, V.int (sz * loA), V.int more])) t2 = _ := upd_same
    have st_ := st.same (Same.new (o := (.tup ([V.int sz, V.int (sz * loA), V.int more]))) ht2)
    clear st
    obtain ⟨st, g⟩ := st_
    replace hsl := g.t _ _ hsl
    replace hsu := g.t _ _ hsu
    replace hkd := g.t _ _ hkd
    replace lkl := lkl.go g
    replace hR0 := g.rlr hR0
    clear g ht2
    generalize upd J10 t2 (.tup ([V.int sz, V.int (sz * loA), V.int more])) = J11 at st et2 hsl hsu hkd lkl hR0 ⊢
    wtm_at "ev_go"
    intro q2 hq2
    have lq2 := st.lst hq2 (upd_same (H := J11) (o := (HO.lst ([V.ref t2]))))
    have st_ := st.same (Same.new (o := (.lst ([V.ref t2]))) hq2)
    clear st
    obtain ⟨st, g⟩ := st_
    replace hsl := g.t _ _ hsl
    replace hsu := g.t _ _ hsu
    replace hkd := g.t _ _ hkd
    replace lkl := lkl.go g
    replace hR0 := g.rlr hR0
    replace et2 := g.t _ _ et2
    clear g hq2
    generalize upd J11 q2 (.lst ([V.ref t2])) = J12 at st lq2 hsl hsu hkd lkl hR0 et2 ⊢
    wtm_at "ev_go"
    have elk := lkl.1
    refine rd_cat elk lq2.1 (by simp only [List.length_cons, List.length_nil]; omega) (fun qo hqo => ?_)
    clear elk
    have lqo := st.lst hqo (upd_same (H := J12) (o := (HO.lst ((R0 ++ [V.ref t2])))))
    have st_ := st.same (Same.new (o := (.lst ((R0 ++ [V.ref t2])))) hqo)
    clear st
    obtain ⟨st, g⟩ := st_
    replace hsl := g.t _ _ hsl
    replace hsu := g.t _ _ hsu
    replace hkd := g.t _ _ hkd
    replace lkl := lkl.go g
    replace hR0 := g.rlr hR0
    replace et2 := g.t _ _ et2
    clear g hqo
    generalize upd J12 qo (.lst ((R0 ++ [V.ref t2]))) = J13 at st lqo hsl hsu hkd lkl hR0 et2 ⊢
    wtm_at "ev_go"
    have hRn := hR0.add et2 nsz nsl nmore
    rw [← ersO] at hRn
    have lenn : (R0 ++ [V.ref t2]).length ≤ 1000 := by rw [List.length_append, List.length_singleton]; omega
    refine book_okN lqo.1 hRn lenn (num_lA) (num_hA) lohiA fineO (fun bo la J14 s4 na nla bn => ?_)
    have st_ := st.add (k := ⟨bo, loA, hiA, (R0 ++ [V.ref t2]), rsO⟩) (o := fun c => c = bo ∨ c = la) s4 ⟨bn.toS, nbO _, lenn, (num_lA), (num_hA)⟩ (fun c z => by
      rcases z with rfl | rfl
      · exact na
      · exact nla)
    clear st
    obtain ⟨st, g⟩ := st_
    simp only [List.nil_append, List.cons_append] at st
    replace hsl := g.t _ _ hsl
    replace hsu := g.t _ _ hsu
    replace hkd := g.t _ _ hkd
    replace lkl := lkl.go g
    replace hR0 := g.rlr hR0
    replace lqo := lqo.go g
    clear s4 na nla bn g
    wtm_at "ev_go"
    try clear hRn lenn
    obtain ⟨mU, emU⟩ : ∃ m, m = lowM (1, loA, hiA) rsA := ⟨_, rfl⟩
    obtain ⟨mO, emO⟩ : ∃ m, m = highM (1, loA, hiA) rsA := ⟨_, rfl⟩
    have meanU : Mean mU.1 mU.2 ((1, loA, hiA) :: rsU) := by rw [emU, ← lowU]; exact mean_low rwU
    have meanO : Mean mO.1 mO.2 ((1, loA, hiA) :: rsO) := by rw [emO, ← highO]; exact mean_high rwO
    have bU : mU.1.natAbs ≤ 1000 ∧ 1 ≤ mU.2 ∧ mU.2 ≤ 40 := by
      obtain ⟨⟨q, hq, e⟩, _⟩ := low_is (1, loA, hiA) rsA wideA
      rw [emU, e]
      rcases List.mem_cons.mp hq with rfl | hq
      · exact ⟨by show hiA.natAbs ≤ _; omega, by show (1 : Int) ≤ 1; decide, by show (1 : Int) ≤ 40; decide⟩
      · obtain ⟨a, b, c, d, e, f⟩ := hW40A q hq
        exact ⟨by show q.2.2.natAbs ≤ _; omega, a, b⟩
    have bO : mO.1.natAbs ≤ 1000 ∧ 1 ≤ mO.2 ∧ mO.2 ≤ 40 := by
      obtain ⟨⟨q, hq, e⟩, _⟩ := high_is (1, loA, hiA) rsA wideA
      rw [emO, e]
      rcases List.mem_cons.mp hq with rfl | hq
      · exact ⟨by show loA.natAbs ≤ _; omega, by show (1 : Int) ≤ 1; decide, by show (1 : Int) ≤ 40; decide⟩
      · obtain ⟨a, b, c, d, e, f⟩ := hW40A q hq
        exact ⟨by show q.2.1.natAbs ≤ _; omega, a, b⟩
    obtain ⟨bU1, bU2, bU3⟩ := bU
    obtain ⟨bO1, bO2, bO3⟩ := bO
    rw [← emU] at hsu
    rw [← emO] at hsl
    refine ⟨p, su, _, _, mU.1, mU.2, rfl, st.hp, st.pl, by omega, hsu, bU2, by omega, by omega, fun tu phU KU Lp klU J15 fr hp6 hL6 htl1 htl0 htu rkU ph0 ph9 => ?_⟩
    have ltu := st.lst htl0 htl1
    have st_ := st.frp fr hp6 hL6
    clear st
    obtain ⟨st, g⟩ := st_
    replace hsl := g.t _ _ hsl
    replace hsu := g.t _ _ hsu
    clear fr hp6 hL6 g htl1 htl0 ph0 ph9
    have hcU := (row_tie rkU meanU).cons
    have ln0 := rkU.n
    have far0 := farK rkU (by decide) (by decide)
    have one0 : ∀ k ∈ klU, 1 ≤ k.2.1 := fun k m => (rkU.k k m).2.1
    wtm_at "ev_go"
    obtain ⟨oi, ak, oisub, fin⟩ := st.ask (i := 1) rfl
    clear st
    refine ⟨bu, tu, oi, loA, hiA, (R0 ++ [V.ref t1]), KU, rsU, klU, rfl, ak, ncU, by omega, far0, one0, ltu.1, htu, fun z => ltu.2.2 (oisub _ z), fun J16 o6 f6 g6 ak6 => ⟨fun _ => ?_, fun i hi c1 c2 => absurd (Cons.less hcU (map_sub fun k m => List.mem_of_mem_take m)) c2⟩⟩
    obtain ⟨ow_, st, g⟩ := fin J16 o6 f6 g6 ak6
    replace hsl := g.t _ _ hsl
    replace hsu := g.t _ _ hsu
    replace ltu := ltu.go g
    replace htu := htu.keep g.t
    clear ak fin oisub f6 g6 ak6 g
    wtm_at "ev_go"
    clear hcU ln0 far0 one0 rkU
    refine ⟨p, sl, _, _, mO.1, mO.2, rfl, st.hp, st.pl, by omega, hsl, bO2, by omega, by omega, fun to phO KO Lp klO J17 fr hp6 hL6 htl1 htl0 hto rkO ph0 ph9 => ?_⟩
    have lto := st.lst htl0 htl1
    have st_ := st.frp fr hp6 hL6
    clear st
    obtain ⟨st, g⟩ := st_
    replace hsl := g.t _ _ hsl
    clear fr hp6 hL6 g htl1 htl0 ph0 ph9
    have hcO := (row_tie rkO meanO).cons
    have ln0 := rkO.n
    have far0 := farK rkO (by decide) (by decide)
    have one0 : ∀ k ∈ klO, 1 ≤ k.2.1 := fun k m => (rkO.k k m).2.1
    wtm_at "ev_go"
    obtain ⟨oi, ak, oisub, fin⟩ := st.ask (i := 2) rfl
    clear st
    refine ⟨bo, to, oi, loA, hiA, (R0 ++ [V.ref t2]), KO, rsO, klO, rfl, ak, ncO, by omega, far0, one0, lto.1, hto, fun z => lto.2.2 (oisub _ z), fun J18 o6 f6 g6 ak6 => ⟨fun _ => ?_, fun i hi c1 c2 => absurd (Cons.less hcO (map_sub fun k m => List.mem_of_mem_take m)) c2⟩⟩
    obtain ⟨ow_, st, g⟩ := fin J18 o6 f6 g6 ak6
    replace hsl := g.t _ _ hsl
    replace lto := lto.go g
    replace hto := hto.keep g.t
    clear ak fin oisub f6 g6 ak6 g
    wtm_at "ev_go"
    clear hcO ln0 far0 one0 rkO
    wtm_at "ev_go"
    intro q3 hq3
    have lq3 := st.lst hq3 (upd_same (H := J18) (o := (HO.lst ([V.non, V.non]))))
    have st_ := st.same (Same.new (o := (.lst ([V.non, V.non]))) hq3)
    clear st
    obtain ⟨st, g⟩ := st_
    clear g hq3
    generalize upd J18 q3 (.lst ([V.non, V.non])) = J19 at st lq3  ⊢
    wtm_at "ev_go"
    intro q4 hq4
    have lq4 := st.lst hq4 (upd_same (H := J19) (o := (HO.lst ([V.non, V.non]))))
    have st_ := st.same (Same.new (o := (.lst ([V.non, V.non]))) hq4)
    clear st
    obtain ⟨st, g⟩ := st_
    replace lq3 := lq3.go g
    clear g hq4
    generalize upd J19 q4 (.lst ([V.non, V.non])) = J20 at st lq4 lq3 ⊢
    refine rd_neNN lq3.1 lq4.1 ?_
    clear lq3 lq4
    wtm_at "ev_go"
    have farT : ∀ a : Int, FarB [((7, sz, a) : R3)] := fun a k m => by
      rw [List.mem_singleton.mp m]
      exact ⟨by show (7 : Int).natAbs ≤ _; decide, by show sz.natAbs ≤ _; omega⟩
    have oneT : ∀ a : Int, ∀ k ∈ [((7, sz, a) : R3)], 1 ≤ k.2.1 := fun a k m => by
      rw [List.mem_singleton.mp m]
      exact sz1
    have memU : (sz, few, sz * hiA) ∈ (1, loA, hiA) :: rsU := by rw [ersU]; exact List.mem_cons_of_mem _ (List.mem_append_right _ List.mem_cons_self)
    have memO : (sz, sz * loA, more) ∈ (1, loA, hiA) :: rsO := by rw [ersO]; exact List.mem_cons_of_mem _ (List.mem_append_right _ List.mem_cons_self)
    have stU : (sz, -few) ∈ dnS ((1, loA, hiA) :: rsU) := List.mem_map.mpr ⟨_, memU, rfl⟩
    have stO : (sz, more) ∈ upS ((1, loA, hiA) :: rsO) := List.mem_map.mpr ⟨_, memO, rfl⟩
    have badU : ¬ Cons (upS ((1, loA, hiA) :: rsU)) (dnS ((1, loA, hiA) :: rsU)) (([((7, sz, few - 1) : R3)].take (0 + 1)).map tieOf) := fun hc => by
      have c := (Cons.of_add (K := []) (f := 7) (l := 7 + sz) (t := few - 1) hc).2.2 _ (Way.of (by rw [show (7 : Int) - (7 + sz) = -sz by omega]; exact Wg.bwd stU))
      have c : -(few - 1) ≤ -few := c
      omega
    have badO : ¬ Cons (upS ((1, loA, hiA) :: rsO)) (dnS ((1, loA, hiA) :: rsO)) (([((7, sz, more + 1) : R3)].take (0 + 1)).map tieOf) := fun hc => by
      have c := (Cons.of_add (K := []) (f := 7) (l := 7 + sz) (t := more + 1) hc).2.1 _ (Way.of (by rw [show (7 : Int) + sz - 7 = sz by omega]; exact Wg.fwd stO))
      have c : more + 1 ≤ more := c
      omega
    have consU : Cons (upS ((1, loA, hiA) :: rsU)) (dnS ((1, loA, hiA) :: rsU)) [] := cons_book rwU
    have consO : Cons (upS ((1, loA, hiA) :: rsO)) (dnS ((1, loA, hiA) :: rsO)) [] := cons_book rwO
    intro k1 hk1
    have ek1 : upd J20 k1 (.tup ([V.int 7, V.int sz, V.int (few - 1)])) k1 = _ := upd_same
    have st_ := st.same (Same.new (o := (.tup ([V.int 7, V.int sz, V.int (few - 1)]))) hk1)
    clear st
    obtain ⟨st, g⟩ := st_
    clear g hk1
    generalize upd J20 k1 (.tup ([V.int 7, V.int sz, V.int (few - 1)])) = J21 at st ek1  ⊢
    wtm_at "ev_go"
    intro m1 hm1
    have lm1 := st.lst hm1 (upd_same (H := J21) (o := (HO.lst ([V.ref k1]))))
    have st_ := st.same (Same.new (o := (.lst ([V.ref k1]))) hm1)
    clear st
    obtain ⟨st, g⟩ := st_
    replace ek1 := g.t _ _ ek1
    clear g hm1
    generalize upd J21 m1 (.lst ([V.ref k1])) = J22 at st lm1 ek1 ⊢
    have hm1 : R3L J22 [V.ref k1] [(7, sz, (few - 1))] := R3L.snoc (L := []) (rs := []) ⟨rfl, fun i v e => by cases e⟩ ek1
    clear ek1
    wtm_at "ev_go"
    obtain ⟨oi, ak, oisub, fin⟩ := st.ask (i := 1) rfl
    clear st
    refine ⟨bu, m1, oi, loA, hiA, (R0 ++ [V.ref t1]), [V.ref k1], rsU, [(7, sz, few - 1)], rfl, ak, ncU, Nat.le_of_ble_eq_true rfl, (farT _), (oneT _), lm1.1, hm1, fun z => lm1.2.2 (oisub _ z), fun J23 o6 f6 g6 ak6 => ⟨fun cc => absurd (cc.less (map_sub fun k m => List.mem_of_mem_take m)) (badU), fun i hi z1 z2 => ?_⟩⟩
    obtain ⟨ow_, st, g⟩ := fin J23 o6 f6 g6 ak6
    replace lm1 := lm1.go g
    replace hm1 := hm1.keep g.t
    clear ak fin oisub f6 g6 ak6 g
    obtain rfl : i = 0 := first_at z1 z2 (consU) (badU)
    clear z1 z2 hi
    wtm_at "ev_go"
    wtm_at "ev_go"
    rw [if_neg (by simp)]
    wtm_at "ev_go"
    intro k2 hk2
    have ek2 : upd J23 k2 (.tup ([V.int 7, V.int sz, V.int (more + 1)])) k2 = _ := upd_same
    have st_ := st.same (Same.new (o := (.tup ([V.int 7, V.int sz, V.int (more + 1)]))) hk2)
    clear st
    obtain ⟨st, g⟩ := st_
    clear g hk2
    generalize upd J23 k2 (.tup ([V.int 7, V.int sz, V.int (more + 1)])) = J24 at st ek2  ⊢
    wtm_at "ev_go"
    intro m2 hm2
    have lm2 := st.lst hm2 (upd_same (H := J24) (o := (HO.lst ([V.ref k2]))))
    have st_ := st.same (Same.new (o := (.lst ([V.ref k2]))) hm2)
    clear st
    obtain ⟨st, g⟩ := st_
    replace ek2 := g.t _ _ ek2
    clear g hm2
    generalize upd J24 m2 (.lst ([V.ref k2])) = J25 at st lm2 ek2 ⊢
    have hm2 : R3L J25 [V.ref k2] [(7, sz, (more + 1))] := R3L.snoc (L := []) (rs := []) ⟨rfl, fun i v e => by cases e⟩ ek2
    clear ek2
    wtm_at "ev_go"
    obtain ⟨oi, ak, oisub, fin⟩ := st.ask (i := 2) rfl
    clear st
    refine ⟨bo, m2, oi, loA, hiA, (R0 ++ [V.ref t2]), [V.ref k2], rsO, [(7, sz, more + 1)], rfl, ak, ncO, Nat.le_of_ble_eq_true rfl, (farT _), (oneT _), lm2.1, hm2, fun z => lm2.2.2 (oisub _ z), fun J26 o6 f6 g6 ak6 => ⟨fun cc => absurd (cc.less (map_sub fun k m => List.mem_of_mem_take m)) (badO), fun i hi z1 z2 => ?_⟩⟩
    obtain ⟨ow_, st, g⟩ := fin J26 o6 f6 g6 ak6
    replace lm2 := lm2.go g
    replace hm2 := hm2.keep g.t
    clear ak fin oisub f6 g6 ak6 g
    obtain rfl : i = 0 := first_at z1 z2 (consO) (badO)
    clear z1 z2 hi
    wtm_at "ev_go"
    rw [if_neg (by simp)]
    wtm_at "ev_go"
    obtain ⟨oi, ak, oisub, fin⟩ := st.ask (i := 1) rfl
    clear st
    refine ⟨bu, sz, oi, loA, hiA, (R0 ++ [V.ref t1]), rsU, rfl, ak, nsz, fun _ _ xd J27 o6 up dn f6 g6 ak6 => ?_, fun _ h => absurd h (by omega), fun _ i j _ fc => absurd ncU fc.not⟩
    obtain ⟨ow_, st, g⟩ := fin J27 o6 f6 g6 ak6
    have hxd := dn rfl
    clear ak fin oisub up dn f6 g6 ak6 g
    try rw [if_neg Bool.false_ne_true]
    wtm_at "ev_go"
    have yd : xd ≤ -few := hxd.2 _ (Wg.fwd stU)
    rw [if_neg (by rw [decide_eq_true_iff]; omega)]
    wtm_at "ev_go"
    obtain ⟨oi, ak, oisub, fin⟩ := st.ask (i := 2) rfl
    clear st
    refine ⟨bo, sz, oi, loA, hiA, (R0 ++ [V.ref t2]), rsO, rfl, ak, nsz, fun _ _ xu J28 o6 up dn f6 g6 ak6 => ?_, fun _ h => absurd h (by omega), fun _ i j _ fc => absurd ncO fc.not⟩
    obtain ⟨ow_, st, g⟩ := fin J28 o6 f6 g6 ak6
    have hxu := up rfl
    clear ak fin oisub up dn f6 g6 ak6 g
    try rw [if_pos rfl]
    wtm_at "ev_go"
    have yu : xu ≤ more := hxu.2 _ (Wg.fwd stO)
    rw [if_neg (by rw [decide_eq_true_iff]; omega)]
    wtm_at "ev_go"
    obtain ⟨oi, ak, oisub, _⟩ := st.ask (i := 1) rfl
    refine ⟨bu, loA, hiA, (R0 ++ [V.ref t1]), rsU, rfl, ak.s.at_, ak.l, num_lA, num_hA, wideU, fun _ S tS1 tS2 J29 s4 _ hS hS1 hS2 => ?_, fun _ i j _ fc => absurd ncU fc.not⟩
    have st_ := st.same s4
    clear st
    obtain ⟨st, g⟩ := st_
    clear s4 g ak oisub hS1
    rw [lowU] at hS2
    wtm_at "ev_go"
    clear hS
    obtain ⟨oi, ak, oisub, _⟩ := st.ask (i := 0) rfl
    refine ⟨a1, loA, hiA, R1, rsA, rfl, ak.s.at_, ak.l, num_lA, num_hA, wideA, fun _ R tR1 tR2 J30 s4 _ hR hR1 hR2 => ?_, fun _ i j _ fc => absurd ncA fc.not⟩
    have st_ := st.same s4
    clear st
    obtain ⟨st, g⟩ := st_
    replace hS2 := g.t _ _ hS2
    clear s4 g ak oisub hR1
    wtm_at "ev_go"
    clear hR
    refine rd_neTT hS2 hR2 ?_
    rw [show (!(decide (_ = _) && decide (_ = _))) = false by simp]
    clear hS2 hR2
    wtm_at "ev_go"
    obtain ⟨oi, ak, oisub, _⟩ := st.ask (i := 2) rfl
    refine ⟨bo, loA, hiA, (R0 ++ [V.ref t2]), rsO, rfl, ak.s.at_, ak.l, num_lA, num_hA, wideO, fun _ S tS1 tS2 J31 s4 _ hS hS1 hS2 => ?_, fun _ i j _ fc => absurd ncO fc.not⟩
    have st_ := st.same s4
    clear st
    obtain ⟨st, g⟩ := st_
    clear s4 g ak oisub hS2
    rw [highO] at hS1
    wtm_at "ev_go"
    clear hS
    obtain ⟨oi, ak, oisub, _⟩ := st.ask (i := 0) rfl
    refine ⟨a1, loA, hiA, R1, rsA, rfl, ak.s.at_, ak.l, num_lA, num_hA, wideA, fun _ R tR1 tR2 J32 s4 _ hR hR1 hR2 => ?_, fun _ i j _ fc => absurd ncA fc.not⟩
    have st_ := st.same s4
    clear st
    obtain ⟨st, g⟩ := st_
    replace hS1 := g.t _ _ hS1
    clear s4 g ak oisub hR2
    wtm_at "ev_go"
    clear hR
    refine rd_neTT hS1 hR1 ?_
    rw [show (!(decide (_ = _) && decide (_ = _))) = false by simp]
    clear hS1 hR1
    wtm_at "ev_go"
    obtain ⟨oi, ak, oisub, _⟩ := st.ask (i := 1) rfl
    refine ⟨bu, loA, hiA, sz, (R0 ++ [V.ref t1]), rsU, rfl, ak.s.at_, ⟨ak.l, num_lA, num_hA, wideU⟩, nsz, fun _ _ J33 s4 => ?_, fun _ h => absurd h (by omega), fun _ i j _ fc => absurd ncU fc.not⟩
    have st_ := st.same s4
    clear st
    obtain ⟨st, g⟩ := st_
    clear s4 g ak oisub
    wtm_at "ev_go"
    have sU : strL loA hiA rsU sz = few := by rw [efew]; unfold strL; rw [lowU]
    have sO : strM loA hiA rsO sz = more := by rw [emore]; unfold strM; rw [highO]
    rw [sU, if_neg (by simp)]
    wtm_at "ev_go"
    obtain ⟨oi, ak, oisub, _⟩ := st.ask (i := 2) rfl
    refine ⟨bo, loA, hiA, sz, (R0 ++ [V.ref t2]), rsO, rfl, ak.s.at_, ⟨ak.l, num_lA, num_hA, wideO⟩, nsz, fun _ _ J34 s4 => ?_, fun _ h => absurd h (by omega), fun _ i j _ fc => absurd ncO fc.not⟩
    have st_ := st.same s4
    clear st
    obtain ⟨st, g⟩ := st_
    clear s4 g ak oisub
    wtm_at "ev_go"
    rw [sO, if_neg (by simp)]
    wtm_at "ev_go"
    intro n1 hn1
    have ln1 := st.lst hn1 (upd_same (H := J34) (o := (HO.lst ([]))))
    have st_ := st.same (Same.new (o := (.lst ([]))) hn1)
    clear st
    obtain ⟨st, g⟩ := st_
    clear g hn1
    generalize upd J34 n1 (.lst ([])) = J35 at st ln1  ⊢
    have hn1 : R3L J35 [] [] := ⟨rfl, fun i v e => by cases e⟩
    wtm_at "ev_go"
    obtain ⟨oi, ak, oisub, fin⟩ := st.ask (i := 1) rfl
    clear st
    refine ⟨bu, n1, 3, sz, oi, loA, hiA, (R0 ++ [V.ref t1]), [], rsU, [], rfl, ak, ncU, by decide, (fun k m => by cases m), (fun k m => by cases m), ln1.1, hn1, fun z => ln1.2.2 (oisub _ z), by omega, by omega, by omega, fun _ T1 c1 d1 J36 o6 f6 g6 ak6 hT0 hT1 lc1 ld1 => ?_, fun i _ _ _ hi c1 c2 => absurd (Cons.less (show Cons _ _ (([] : List R3).map tieOf) from consU) (map_sub fun k m => List.mem_of_mem_take m)) c2⟩
    obtain ⟨ow_, st, g⟩ := fin J36 o6 f6 g6 ak6
    replace ln1 := ln1.go g
    replace hn1 := hn1.keep g.t
    clear ak fin oisub f6 g6 ak6 g hT0
    have dl : d1 ≤ -few := ld1.2 _ (Way.of (by rw [show (3 : Int) - (3 + sz) = -sz by omega]; exact Wg.bwd stU))
    wtm_at "ev_go"
    refine rd_ite (fun c20 => ?_) (fun c20 => ?_)
    · skip
      wtm_at "ev_go"
      rw [decide_eq_true (show few ≤ -d1 by omega)]
      exact k _ _ st.fr st.hp (st.pl.le (m := nn + 3000) (by omega))
    · skip
      have nsz2 : Num (2 * sz) := num_of (by omega)
      have n2_ : Num 2 := num_of (by decide)
      have cmf : CMulW 2 few := n2_.mul nfew
      have cms : CMulW 2 sz := n2_.mul nsz
      have cmm : CMulW 2 more := n2_.mul nmore
      have tL : 2 * few ≤ strL loA hiA rsA (2 * sz) := by rw [efew]; exact strL_two rwA_
      have tM : strM loA hiA rsA (2 * sz) ≤ 2 * more := by rw [emore]; exact strM_two rwA_
      wtm_at "ev_go"
      obtain ⟨oi, ak, oisub, _⟩ := st.ask (i := 0) rfl
      refine ⟨a1, loA, hiA, (2 * sz), R1, rsA, rfl, ak.s.at_, ⟨ak.l, num_lA, num_hA, wideA⟩, nsz2, fun _ _ J37 s4 => ?_, fun _ h => absurd h (by omega), fun _ i j _ fc => absurd ncA fc.not⟩
      have st_ := st.same s4
      clear st
      obtain ⟨st, g⟩ := st_
      replace hT1 := g.t _ _ hT1
      clear s4 g ak oisub
      wtm_at "ev_go"
      rw [if_pos (decide_eq_true tL)]
      wtm_at "ev_go"
      obtain ⟨oi, ak, oisub, _⟩ := st.ask (i := 0) rfl
      refine ⟨a1, loA, hiA, (2 * sz), R1, rsA, rfl, ak.s.at_, ⟨ak.l, num_lA, num_hA, wideA⟩, nsz2, fun _ _ J38 s4 => ?_, fun _ h => absurd h (by omega), fun _ i j _ fc => absurd ncA fc.not⟩
      have st_ := st.same s4
      clear st
      obtain ⟨st, g⟩ := st_
      replace hT1 := g.t _ _ hT1
      clear s4 g ak oisub
      wtm_at "ev_go"
      rw [decide_eq_true tM]
      exact k _ _ st.fr st.hp (st.pl.le (m := nn + 3000) (by omega))
end
end

end
end
end
end
end
end
end
end
end
end
end
end
end
end
section
local macro_rules | `(tactic| wtm_at "ev_lk") => `(tactic| first | assumption | exact upd_same | (refine lk_new' (by assumption) ?_; wtm_at "ev_lk") | (refine lk_ne (by wtm_at "ev_ne") ?_; wtm_at "ev_lk") | (refine same_lk (by assumption) ?_; wtm_at "ev_lk"))
section
local macro_rules | `(tactic| wtm_at "ev_sm") => `(tactic| first | assumption | exact Same.refl _ | (refine same_new ?_ (by assumption); wtm_at "ev_sm") | (refine Same.trans ?_ (by assumption); wtm_at "ev_sm"))
section
local macro_rules | `(tactic| wtm_at "ev_no") => `(tactic| first | assumption | exact no_back (by assumption) | (refine no_new ?_ (by wtm_at "ev_ne"); wtm_at "ev_no"))
section
local macro_rules | `(tactic| wtm_at "ev_sq") => `(tactic| first | assumption | exact SqL.of (by wtm_at "ev_lk") | exact SqT.of (by wtm_at "ev_lk"))
section
local macro_rules | `(tactic| wtm_at "ev_step") => `(tactic| with_reducible first
  | refine rd_seq ?_ | refine rd_next ?_ | refine rd_ret ?_ | refine rd_retN ?_ | refine rd_if ?_ | refine rd_drop ?_ | refine rd_asg ?_ | refine rd_name ?_ | refine rd_gsub ?_ | refine rd_gnil ?_ | refine rd_gcons ?_
  | refine rd_c ?_ | refine rd_op ?_ | refine rd_un ?_ | refine rd_rI0 ?_ | refine rd_rU ?_ | refine rd_tup ?_ | refine rd_lst ?_ | refine rd_nil ?_ | refine rd_cons ?_ | refine rd_cb ?_ | refine rd_call ?_ | refine rd_sl ?_ | refine rd_no ?_ | refine rd_part ?_
  | refine rd_test ?_ | refine rd_tB ?_ | refine rd_not ?_ | refine rd_and ?_ | refine rd_or ?_ | refine rd_notV ?_ | refine rd_andV ?_ | refine rd_orV ?_ | refine rd_ifE ?_ | refine rd_bl ?_ | refine rd_ex ?_
  | refine rd_rng1 ?_ | refine rd_overL ?_ | refine rd_overT ?_ | refine rd_forA ?_ | refine rd_forB ?_ | refine rd_forC ?_ | refine rd_lcA ?_ | refine rd_lcB ?_ | refine rd_lcC ?_ | refine rd_bm ?_ | refine rd_mkv ?_ | refine rd_xv ?_
  | refine rd_T ?_ | refine rd_F ?_ | refine rd_True ?_ | refine rd_False ?_ | refine rd_int ?_ | refine rd_intB ?_ | refine rd_one ?_ | refine rd_two ?_)
section
local macro_rules | `(tactic| wtm_at "ev_cond") => `(tactic| first | assumption | exact (show (0 : Int) < _ by decide) | exact (show (0 : Int) < _ by omega) | exact Or.inl ⟨by decide, by decide⟩ | exact Or.inr ⟨by decide, by decide⟩ | exact pow_cond (by decide) (by decide) (by first | decide | omega) (by first | decide | omega) | exact wide_div (b := 2000) (by first | assumption | decide | omega) (by first | decide | omega) (by decide) (by decide))
section
local macro_rules | `(tactic| wtm_at "ev_side") => `(tactic| first
  | ((with_reducible apply rd_var); exact rfl)
  | ((with_reducible apply rd_ixL); (wtm_at "ev_sq"); exact rfl)
  | ((with_reducible apply rd_ixT); (wtm_at "ev_sq"); exact rfl)
  | ((with_reducible apply rd_eq); exact rfl)
  | ((with_reducible apply rd_ne); exact rfl)
  | ((with_reducible apply rd_setL); (wtm_at "ev_lk"); exact rfl)
  | ((with_reducible apply rd_gtup); (wtm_at "ev_sq"); exact rfl)
  | ((with_reducible apply rd_len); (wtm_at "ev_sq"))
  | ((with_reducible apply rd_lenT); (wtm_at "ev_sq"))
  | ((with_reducible apply rd_rg); (first | decide | omega); (first | decide | omega))
  | ((with_reducible apply rd_atL); (wtm_at "ev_sq"))
  | ((with_reducible apply rd_atT); (wtm_at "ev_sq"))
  | ((with_reducible apply rd_tyL); (wtm_at "ev_sq"))
  | ((with_reducible apply rd_cat); (wtm_at "ev_lk"); (wtm_at "ev_lk"); exact Nat.le_of_ble_eq_true rfl)
  | ((with_reducible apply rd_size); exact Nat.le_of_ble_eq_true rfl)
  | ((with_reducible apply rd_rI); wtm_at "ev_cond"))
section
local macro_rules | `(tactic| wtm_at "ev_rd") => `(tactic| repeat (first | wtm_at "ev_step" | wtm_at "ev_side"))
section
local macro_rules | `(tactic| wtm_at "ev_go") => `(tactic| ((try simp only [L2.start, List.map_cons, List.map_nil, List.length_cons, List.length_nil, Nat.reduceAdd, Nat.reduceSub, List.replicate_succ, List.replicate_zero, List.cons_append, List.nil_append]); wtm_at "ev_rd"; (try simp only [List.set_cons_zero, List.set_cons_succ, upd_upd])))
section
local macro_rules | `(tactic| wtm_at "ev_step") => `(tactic| with_reducible first | refine rd_par ?_ | refine rd_par2 ?_ | refine rd_forD ?_)
section
local macro_rules | `(tactic| wtm_at "ev_side") => `(tactic| ((with_reducible apply rd_enumL); (wtm_at "ev_sq")))
section
local macro_rules | `(tactic| wtm_at "ev_cond") => `(tactic| exact Num.mul (by assumption) (by assumption))
section
local macro_rules | `(tactic| wtm_at "ev_step") => `(tactic| with_reducible first | refine rd_fld ?_ | refine rd_sfld ?_ | refine rd_tmko ?_ | refine rd_meth0 ?_ | refine rd_make ?_ | refine rd_prop ?_ | refine rd_callK0 ?_)
section
local macro_rules | `(tactic| wtm_at "ev_step") => `(tactic| with_reducible first | refine rd_par ?_ | refine rd_par2 ?_ | refine rd_rng2 ?_ | refine rd_forF ?_ | refine rd_revR ?_ | refine rd_iRev ?_ | refine rd_rg1 ?_ | refine rd_par3 ?_ | refine rd_chain ?_)
section
/-! ### the law itself -/
def spLaw (K : PySem.W.Frag) : Sp := fun vs H Q _ => ∃ (a : Addr) (ns : List Int), vs = [.ref a] ∧ SqL K H a (ns.map V.int) ∧ ns.length ≤ 63 ∧ ∀ H', Q (.bl true) H'
section
variable {P : Program} {w : World} {K : PySem.W.Frag} {mg : Str → Option Value} {base : Heap}
theorem ok_law {f : Addr} {fd : FuncData} (F : Fun K "law" "law" s_law f fd) (T : Blt mg) (GP : CalN P w K mg base 1 "_law_pool" (spPool K)) (GR : CalG P w K mg base 10 "_law_right" spRight) : FnG P w K mg base CX0 11 f fd ["script"] (spLaw K) := by
  refine fnG_of F sc_law (fun vs H Q E h => ?_) (fun cdv A outer s H vs Q E hgu hr h => ?_)
  · obtain ⟨a, ns, rfl, _⟩ := h
    rfl
  · obtain ⟨a, ns, rfl, hS, hn, k⟩ := h
    refine ⟨_, (pss_cons (ps_for PassesOwn.never rfl (pi_range1 (by rfl) T.n_range (pa_cons (pe_callB (call_max2 rfl) (by rfl) T.n_max boot_max (pa_cons pe_int (pa_cons (pe_callB (call_min2 rfl) (by rfl) T.n_min boot_min (pa_cons pe_int (pa_cons (pe_callB call_len_seq (by rfl) T.n_len PySem.boot_len (pa_cons (pv 0) pa_nil)) pa_nil))) pa_nil))) pa_nil)) (pg_name (i := 1) sc_law.nd rfl (Or.inl rfl)) 
        (pss_cons (ps_set (i := 2) sc_law.nd rfl (Or.inl rfl) (pe_cN GP hr (by decide) (by rfl) (pa_cons (pv 0) (pa_cons (pv 1) pa_nil))))
        (pss_one (ps_for PassesOwn.never rfl (pi_range1 (by rfl) T.n_range (pa_cons pe_int pa_nil)) (pg_name (i := 3) sc_law.nd rfl (Or.inl rfl)) 
          (pss_one (ps_if (pt_not (pt_val (pe_cG GR hr (by decide) hgu (by rfl) (pa_cons (pv 2) pa_nil)))) 
            (pss_one (ps_ret pe_bl)) pss_nil))))))
      (pss_one (ps_ret pe_bl))), ?_⟩
    wtm_at "ev_go"
    generalize e : Int.toNat _ = n
    have n6 : n ≤ 6 := by
      rw [← e]
      generalize ((ns.map V.int).length : Int) = z
      by_cases z6 : z < 4
      · rw [if_pos z6]
        by_cases z1 : z > 1
        · rw [if_pos z1]
          omega
        · rw [if_neg z1]
          decide
      · rw [if_neg z6]
        decide
    clear e
    refine rd_forR (fun i σ H2 => ∃ (x1 x2 x3 : Option V), σ = [some (.ref a), x1, x2, x3] ∧ SqL K H2 a (ns.map V.int)) ⟨_, _, _, rfl, hS⟩ ?_ ?_
    · rintro i σ H2 hi ⟨x1, x2, x3, rfl, hS2⟩
      wtm_at "ev_go"
      refine ⟨a, ns, _, rfl, hS2, by omega, by omega, fun p L np hL => ?_⟩
      wtm_at "ev_go"
      refine rd_forR (fun j σ' H' => ∃ (x3 : Option V) (L' : List V), σ' = [some (.ref a), some (.int (0 + (i : Int))), some (.ref p), x3] ∧ Same H2 H' ∧ H' p = some (.lst L') ∧ PoolL L' ((j : Int) * 3000)) ⟨_, L, rfl, fun b o z => Same.new np b o z, upd_same, hL.le (by omega)⟩ ?_ ?_
      · rintro j σ' H' hj ⟨x3, L', rfl, ex, hp, hL'⟩
        wtm_at "ev_go"
        refine ⟨p, L', _, rfl, hp, hL', by omega, fun H3 L3 fr hp3 hL3 => ?_⟩
        wtm_at "ev_go"
        exact ⟨_, L3, rfl, fun b o z => fr b o (ex b o z) (ne_of_none z np), hp3, hL3.le (by omega)⟩
      · rintro σ' H' ⟨x3, L', rfl, ex, _⟩
        exact ⟨_, _, _, rfl, sqL_same hS2 ex⟩
    · rintro σ' H' ⟨x1, x2, x3, rfl, _⟩
      wtm_at "ev_go"
      exact k H'
end
end

end
end
end
end
end
end
end
end
end
end
end
end
end
end
end
end Ev
namespace Ev
open PySem PySem.Spec PyProof.Rows L2
/-! ### the end: what the written part says -/
theorem cls_mk {K : PySem.W.Frag} {h : Heap} {mg : Str → Option Value} {x : Str} {C fI : Addr} {nm q : Str} {N : Addr} {bs bm : List Value} {sl : List Str} {sub : List Value} {ab : Bool} {col : Option Bool} {dd : Option Addr} {m0 m1 m2 m3 m5 : Option Value} (X : K.In h) (G : h.Ns mainGlobals mg)
    (a : PySem.W.nsIn K mainGlobals x = some (some (.ref C)))
    (xl : K.lookup C = some (excClassObj nm q C N bs bm true sl sub ab col dd m0 m1 m2 m3 m5 "ValueError.__new__"))
    (rb : PySem.HandSPX.refsVE bm = true)
    (sa : PySem.W.findIn K (.ref C) "__setattr__" = some (some (.builtin "object.__setattr__")))
    (ec : PySem.W.subIn K (.ref C) (.type "BaseException") = some true)
    (ty : PySem.W.typeIn K (.ref C) = some (.type "type"))
    (kc : PySem.W.keepIn K (.ref C) = true)
    (i : PySem.W.findIn K (.ref C) "__init__" = some (some (.ref fI)))
    (t : PySem.W.typeIn K (.ref fI) = some (.type "function"))
    (ga : PySem.W.findIn K (.ref C) "__getattribute__" = some (some (.builtin "BaseException.__getattribute__")))
    (gg : PySem.W.findIn K (.ref C) "__getattr__" = some none)
    (hd : PySem.W.hasDictIn K C = true)
    (ac : PySem.W.findIn K (.ref C) "__class__" = some (some (.builtin "object.__class__")))
    (sn : PySem.W.specialIn K (.builtin "object.__class__") "__get__" = some (some (.builtin "getset_descriptor.__get__")))
    (tk : PySem.W.takesIn K (.builtin "object.__class__") = some true)
    (mr : PySem.W.mroIn K C (.type "object") = some true)
    (vn : PySem.W.findIn K (.ref C) "value" = some none) : ExT K mg x C fI :=
  ⟨⟨⟨nm, q, N, bs, bm, sl, sub, ab, col, dd, m0, m1, m2, m3, m5, xl, rb⟩, sa, ec, ty, kc⟩, i, t, PySem.W.mg_of X G a, ⟨ga, gg, ec, hd, ac, sn, tk, mr⟩, vn⟩

section
variable {P : Program} {w : World} {K : PySem.W.Frag} {mg : Str → Option Value} {base : Heap} {fI : Addr}
theorem ok_init {fd : FuncData} (F : Fun K "__init__" "SpanError.__init__" s_SpanError_init fI fd) : FnOk P w K mg base CX0 1 fI fd ["self", "value"] (spInit K) := by
  refine F.ok sc_SpanError_init (fun vs H Q E h => ?_) (fun cdv A outer s H vs Q E hr h => ?_)
  · obtain ⟨a, C, v, rfl, _⟩ := h
    rfl
  · obtain ⟨a, C, v, rfl, ha, hc, hn, k⟩ := h
    refine ⟨_, pss_one (ps_ost (pv 0) (pv 1)), ?_⟩
    exact ⟨_, rfl, _, rfl, a, C, rfl, hc, hn, .inl ⟨ha, fun dx n ne => k dx n ne⟩⟩
end
set_option maxHeartbeats 16000000 in
theorem all_mk {P : Program} {w : World} {K : PySem.W.Frag} {h : Heap} {mg : Str → Option Value} {fa cD cR cB cW cM cS cL cT cC cI  fI fN fB fC fSu fM fGr fLe fS fG fF fL fT fAd fAk fSr fWa fHe fEx fRi g_is_rule g_highest_least g_lowest_most g_first_conflict g_first_exceeded g_check_rows g_least_keys g_strictest g_near_sums g_needed_steps g_spread g_sums_of g_check_length g_greatest_sum g_least_sum g_shares g_lowest_terms g_least_joined g_tied g_check_known g_first_wrong g_sure_sums g_strictest_least g_strictest_most g_check_width g_law_pool g_law_draw g_law_kind g_law_made g_law_shares g_law_amount g_law_ties_of g_law_right g_law : Addr} (X : K.In h) (G : h.Ns mainGlobals mg) (hfa : mg "law" = some (.ref fa))
    {od0 an0 od1 an1 od2 an2 od3 an3 od4 an4 od5 an5 od6 an6 od7 an7 od8 an8 od9 an9 od10 an10 od11 an11 od12 an12 od13 an13 od14 an14 od15 an15 od16 an16 od17 an17 od18 an18 od19 an19 od20 an20 od21 an21 od22 an22 od23 an23 od24 an24 od25 an25 od26 an26 od27 an27 od28 an28 od29 an29 od30 an30 od31 an31 od32 an32 od33 an33 od34 an34 od35 an35 od36 an36 od37 an37 od38 an38 od39 an39 od40 an40 od41 an41 od42 an42 od43 an43 od44 an44 od45 an45 od46 an46 od47 an47 od48 an48 od49 an49 od50 an50 od51 an51 od52 an52 od53 an53 : Option Addr} {sl0 sl1 sl2 sl3 sl4 sl5 sl6 sl7 sl8 sl9 sl10 sl11 sl12 sl13 sl14 sl15 sl16 sl17 sl18 sl19 sl20 sl21 sl22 sl23 sl24 sl25 sl26 sl27 sl28 sl29 sl30 sl31 sl32 sl33 sl34 sl35 sl36 sl37 sl38 sl39 sl40 sl41 sl42 sl43 sl44 sl45 sl46 sl47 sl48 sl49 sl50 sl51 sl52 sl53 : Array (Option Value)} {oc0 kV0 dc0 pm0 cd0 ct0 oc1 kV1 dc1 pm1 cd1 ct1 oc2 kV2 dc2 pm2 cd2 ct2 oc3 kV3 dc3 pm3 cd3 ct3 oc4 kV4 dc4 pm4 cd4 ct4 oc5 kV5 dc5 pm5 cd5 ct5 oc6 kV6 dc6 pm6 cd6 ct6 oc7 kV7 dc7 pm7 cd7 ct7 oc8 kV8 dc8 pm8 cd8 ct8 oc9 kV9 dc9 pm9 cd9 ct9 oc10 kV10 dc10 pm10 cd10 ct10 oc11 kV11 dc11 pm11 cd11 ct11 oc12 kV12 dc12 pm12 cd12 ct12 oc13 kV13 dc13 pm13 cd13 ct13 oc14 kV14 dc14 pm14 cd14 ct14 oc15 kV15 dc15 pm15 cd15 ct15 oc16 kV16 dc16 pm16 cd16 ct16 oc17 kV17 dc17 pm17 cd17 ct17 oc18 kV18 dc18 pm18 cd18 ct18 oc19 kV19 dc19 pm19 cd19 ct19 oc20 kV20 dc20 pm20 cd20 ct20 oc21 kV21 dc21 pm21 cd21 ct21 oc22 kV22 dc22 pm22 cd22 ct22 oc23 kV23 dc23 pm23 cd23 ct23 oc24 kV24 dc24 pm24 cd24 ct24 oc25 kV25 dc25 pm25 cd25 ct25 oc26 kV26 dc26 pm26 cd26 ct26 oc27 kV27 dc27 pm27 cd27 ct27 oc28 kV28 dc28 pm28 cd28 ct28 oc29 kV29 dc29 pm29 cd29 ct29 oc30 kV30 dc30 pm30 cd30 ct30 oc31 kV31 dc31 pm31 cd31 ct31 oc32 kV32 dc32 pm32 cd32 ct32 oc33 kV33 dc33 pm33 cd33 ct33 oc34 kV34 dc34 pm34 cd34 ct34 oc35 kV35 dc35 pm35 cd35 ct35 oc36 kV36 dc36 pm36 cd36 ct36 oc37 kV37 dc37 pm37 cd37 ct37 oc38 kV38 dc38 pm38 cd38 ct38 oc39 kV39 dc39 pm39 cd39 ct39 oc40 kV40 dc40 pm40 cd40 ct40 oc41 kV41 dc41 pm41 cd41 ct41 oc42 kV42 dc42 pm42 cd42 ct42 oc43 kV43 dc43 pm43 cd43 ct43 oc44 kV44 dc44 pm44 cd44 ct44 oc45 kV45 dc45 pm45 cd45 ct45 oc46 kV46 dc46 pm46 cd46 ct46 oc47 kV47 dc47 pm47 cd47 ct47 oc48 kV48 dc48 pm48 cd48 ct48 oc49 kV49 dc49 pm49 cd49 ct49 oc50 kV50 dc50 pm50 cd50 ct50 oc51 kV51 dc51 pm51 cd51 ct51 oc52 kV52 dc52 pm52 cd52 ct52 oc53 kV53 dc53 pm53 cd53 ct53 : Value}
    (eD : ExT K mg "InvalidDays" cD fI)
    (eR : ExT K mg "InvalidRule" cR fI)
    (eW : ExT K mg "NoRows" cW fI)
    (eL : ExT K mg "InvalidLength" cL fI)
    (aB : PySem.W.nsIn K mainGlobals "Book" = some (some (.ref cB)))
    (bm : PySem.W.makesIn K cB = true)
    (bi : PySem.W.findIn K (.ref cB) "__init__" = some (some (.ref fN)))
    (bf : PySem.W.isFn K (.ref fN) = true)
    (bk : PySem.W.keepIn K (.ref cB) = true)
    (pg : PySem.W.plainGet K cB Str.empty = true)
    (hd : PySem.W.hasDictIn K cB = true)
    (po : PySem.W.plainOver K cB = true)
    (sa : PySem.W.findIn K (.ref cB) "__setattr__" = some (some (.builtin "object.__setattr__")))
    (n1 : PySem.W.findIn K (.ref cB) "_low" = some none)
    (n2 : PySem.W.findIn K (.ref cB) "_high" = some none)
    (n3 : PySem.W.findIn K (.ref cB) "_rules" = some none)
    (n4 : PySem.W.findIn K (.ref cB) "_conflict" = some none)
    (n5 : PySem.W.findIn K (.ref cB) "_sums" = some none)
    (n6 : PySem.W.findIn K (.ref cB) "_spots" = some none)
    (m_fB : PySem.W.findIn K (.ref cB) "bounds" = some (some (.ref fB)))
    (i_fB : PySem.W.isFn K (.ref fB) = true)
    (m_fC : PySem.W.findIn K (.ref cB) "conflict" = some (some (.ref fC)))
    (i_fC : PySem.W.isFn K (.ref fC) = true)
    (m_fSu : PySem.W.findIn K (.ref cB) "sums" = some (some (.ref fSu)))
    (i_fSu : PySem.W.isFn K (.ref fSu) = true)
    (aM : PySem.W.nsIn K mainGlobals "Sums" = some (some (.ref cM)))
    (mmM : PySem.W.makesIn K cM = true)
    (miM : PySem.W.findIn K (.ref cM) "__init__" = some (some (.ref fM)))
    (mfM : PySem.W.isFn K (.ref fM) = true)
    (mkM : PySem.W.keepIn K (.ref cM) = true)
    (pgM : PySem.W.plainGet K cM Str.empty = true)
    (hdM : PySem.W.hasDictIn K cM = true)
    (poM : PySem.W.plainOver K cM = true)
    (saM : PySem.W.findIn K (.ref cM) "__setattr__" = some (some (.builtin "object.__setattr__")))
    (nM1 : PySem.W.findIn K (.ref cM) "_up" = some none)
    (nM2 : PySem.W.findIn K (.ref cM) "_down" = some none)
    (nM3 : PySem.W.findIn K (.ref cM) "_tight" = some none)
    (aS : PySem.W.nsIn K mainGlobals "Side" = some (some (.ref cS)))
    (mmS : PySem.W.makesIn K cS = true)
    (miS : PySem.W.findIn K (.ref cS) "__init__" = some (some (.ref fS)))
    (mfS : PySem.W.isFn K (.ref fS) = true)
    (mkS : PySem.W.keepIn K (.ref cS) = true)
    (pgS : PySem.W.plainGet K cS Str.empty = true)
    (hdS : PySem.W.hasDictIn K cS = true)
    (poS : PySem.W.plainOver K cS = true)
    (saS : PySem.W.findIn K (.ref cS) "__setattr__" = some (some (.builtin "object.__setattr__")))
    (nS1 : PySem.W.findIn K (.ref cS) "_near" = some none)
    (nS2 : PySem.W.findIn K (.ref cS) "_reach" = some none)
    (nS3 : PySem.W.findIn K (.ref cS) "_steps" = some none)
    (nS4 : PySem.W.findIn K (.ref cS) "_width" = some none)
    (nS5 : PySem.W.findIn K (.ref cS) "_worth" = some none)
    (nS6 : PySem.W.findIn K (.ref cS) "_far" = some none)
    (nS7 : PySem.W.findIn K (.ref cS) "_since" = some none)
    (m_fGr : PySem.W.findIn K (.ref cM) "greatest" = some (some (.ref fGr)))
    (i_fGr : PySem.W.isFn K (.ref fGr) = true)
    (m_fLe : PySem.W.findIn K (.ref cM) "least" = some (some (.ref fLe)))
    (i_fLe : PySem.W.isFn K (.ref fLe) = true)
    (m_fG : PySem.W.findIn K (.ref cS) "greatest" = some (some (.ref fG)))
    (i_fG : PySem.W.isFn K (.ref fG) = true)
    (m_fF : PySem.W.findIn K (.ref cS) "_find_far" = some (some (.ref fF)))
    (i_fF : PySem.W.isFn K (.ref fF) = true)
    (m_fL : PySem.W.findIn K (.ref cS) "_lengthen" = some (some (.ref fL)))
    (i_fL : PySem.W.isFn K (.ref fL) = true)
    (h_heappush : PySem.W.nsIn K mainGlobals "heappush" = some (some (.builtin "_heapq.heappush")))
    (h_heappop : PySem.W.nsIn K mainGlobals "heappop" = some (some (.builtin "_heapq.heappop")))
    (h_gcd : PySem.W.nsIn K mainGlobals "gcd" = some (some (.builtin "math.gcd")))
    (eC : ExT K mg "Contradiction" cC fI)
    (eI : ExT K mg "InvalidKnown" cI fI)
    (aT : PySem.W.nsIn K mainGlobals "Ties" = some (some (.ref cT)))
    (mmT : PySem.W.makesIn K cT = true)
    (miT : PySem.W.findIn K (.ref cT) "__init__" = some (some (.ref fT)))
    (mfT : PySem.W.isFn K (.ref fT) = true)
    (mkT : PySem.W.keepIn K (.ref cT) = true)
    (pgT : PySem.W.plainGet K cT Str.empty = true)
    (hdT : PySem.W.hasDictIn K cT = true)
    (poT : PySem.W.plainOver K cT = true)
    (saT : PySem.W.findIn K (.ref cT) "__setattr__" = some (some (.builtin "object.__setattr__")))
    (nT1 : PySem.W.findIn K (.ref cT) "_sums" = some none)
    (nT2 : PySem.W.findIn K (.ref cT) "_ties" = some none)
    (nT3 : PySem.W.findIn K (.ref cT) "_rows" = some none)
    (m_fAd : PySem.W.findIn K (.ref cT) "add_tie" = some (some (.ref fAd)))
    (i_fAd : PySem.W.isFn K (.ref fAd) = true)
    (m_fAk : PySem.W.findIn K (.ref cT) "add_known" = some (some (.ref fAk)))
    (i_fAk : PySem.W.isFn K (.ref fAk) = true)
    (m_fSr : PySem.W.findIn K (.ref cT) "sure" = some (some (.ref fSr)))
    (i_fSr : PySem.W.isFn K (.ref fSr) = true)
    (m_fWa : PySem.W.findIn K (.ref cT) "_ways" = some (some (.ref fWa)))
    (i_fWa : PySem.W.isFn K (.ref fWa) = true)
    (m_fHe : PySem.W.findIn K (.ref cT) "_heights" = some (some (.ref fHe)))
    (i_fHe : PySem.W.isFn K (.ref fHe) = true)
    (m_fEx : PySem.W.findIn K (.ref cT) "_extend" = some (some (.ref fEx)))
    (i_fEx : PySem.W.isFn K (.ref fEx) = true)
    (m_fRi : PySem.W.findIn K (.ref cM) "rise" = some (some (.ref fRi)))
    (i_fRi : PySem.W.isFn K (.ref fRi) = true)
    (l0 : K.lookup fI = some ⟨oc0, od0, .func (PySem.W.fnOf "__init__" "SpanError.__init__" (defArgs s_SpanError_init) (defBody s_SpanError_init) (defScope s_SpanError_init) .none kV0 dc0 pm0 an0 cd0 ct0), sl0⟩)
    (u0 : PySem.W.codeIn K cd0 "SpanError.__init__" = true)
    (k0 : PySem.W.keepIn K (.ref fI) = true)
    (l1 : K.lookup fN = some ⟨oc1, od1, .func (PySem.W.fnOf "__init__" "Book.__init__" (defArgs s_Book_init) (defBody s_Book_init) (defScope s_Book_init) .none kV1 dc1 pm1 an1 cd1 ct1), sl1⟩)
    (u1 : PySem.W.codeIn K cd1 "Book.__init__" = true)
    (k1 : PySem.W.keepIn K (.ref fN) = true)
    (l2 : K.lookup fB = some ⟨oc2, od2, .func (PySem.W.fnOf "bounds" "Book.bounds" (defArgs s_Book_bounds) (defBody s_Book_bounds) (defScope s_Book_bounds) .none kV2 dc2 pm2 an2 cd2 ct2), sl2⟩)
    (u2 : PySem.W.codeIn K cd2 "Book.bounds" = true)
    (k2 : PySem.W.keepIn K (.ref fB) = true)
    (l3 : K.lookup fC = some ⟨oc3, od3, .func (PySem.W.fnOf "conflict" "Book.conflict" (defArgs s_Book_conflict) (defBody s_Book_conflict) (defScope s_Book_conflict) .none kV3 dc3 pm3 an3 cd3 ct3), sl3⟩)
    (u3 : PySem.W.codeIn K cd3 "Book.conflict" = true)
    (k3 : PySem.W.keepIn K (.ref fC) = true)
    (l4 : K.lookup fSu = some ⟨oc4, od4, .func (PySem.W.fnOf "sums" "Book.sums" (defArgs s_Book_sums) (defBody s_Book_sums) (defScope s_Book_sums) .none kV4 dc4 pm4 an4 cd4 ct4), sl4⟩)
    (u4 : PySem.W.codeIn K cd4 "Book.sums" = true)
    (k4 : PySem.W.keepIn K (.ref fSu) = true)
    (l5 : K.lookup fM = some ⟨oc5, od5, .func (PySem.W.fnOf "__init__" "Sums.__init__" (defArgs s_Sums_init) (defBody s_Sums_init) (defScope s_Sums_init) .none kV5 dc5 pm5 an5 cd5 ct5), sl5⟩)
    (u5 : PySem.W.codeIn K cd5 "Sums.__init__" = true)
    (k5 : PySem.W.keepIn K (.ref fM) = true)
    (l6 : K.lookup fGr = some ⟨oc6, od6, .func (PySem.W.fnOf "greatest" "Sums.greatest" (defArgs s_Sums_greatest) (defBody s_Sums_greatest) (defScope s_Sums_greatest) .none kV6 dc6 pm6 an6 cd6 ct6), sl6⟩)
    (u6 : PySem.W.codeIn K cd6 "Sums.greatest" = true)
    (k6 : PySem.W.keepIn K (.ref fGr) = true)
    (l7 : K.lookup fLe = some ⟨oc7, od7, .func (PySem.W.fnOf "least" "Sums.least" (defArgs s_Sums_least) (defBody s_Sums_least) (defScope s_Sums_least) .none kV7 dc7 pm7 an7 cd7 ct7), sl7⟩)
    (u7 : PySem.W.codeIn K cd7 "Sums.least" = true)
    (k7 : PySem.W.keepIn K (.ref fLe) = true)
    (l8 : K.lookup fS = some ⟨oc8, od8, .func (PySem.W.fnOf "__init__" "Side.__init__" (defArgs s_Side_init) (defBody s_Side_init) (defScope s_Side_init) .none kV8 dc8 pm8 an8 cd8 ct8), sl8⟩)
    (u8 : PySem.W.codeIn K cd8 "Side.__init__" = true)
    (k8 : PySem.W.keepIn K (.ref fS) = true)
    (l9 : K.lookup fG = some ⟨oc9, od9, .func (PySem.W.fnOf "greatest" "Side.greatest" (defArgs s_Side_greatest) (defBody s_Side_greatest) (defScope s_Side_greatest) .none kV9 dc9 pm9 an9 cd9 ct9), sl9⟩)
    (u9 : PySem.W.codeIn K cd9 "Side.greatest" = true)
    (k9 : PySem.W.keepIn K (.ref fG) = true)
    (l10 : K.lookup fF = some ⟨oc10, od10, .func (PySem.W.fnOf "_find_far" "Side._find_far" (defArgs s_Side_find_far) (defBody s_Side_find_far) (defScope s_Side_find_far) .none kV10 dc10 pm10 an10 cd10 ct10), sl10⟩)
    (u10 : PySem.W.codeIn K cd10 "Side._find_far" = true)
    (k10 : PySem.W.keepIn K (.ref fF) = true)
    (l11 : K.lookup fL = some ⟨oc11, od11, .func (PySem.W.fnOf "_lengthen" "Side._lengthen" (defArgs s_Side_lengthen) (defBody s_Side_lengthen) (defScope s_Side_lengthen) .none kV11 dc11 pm11 an11 cd11 ct11), sl11⟩)
    (u11 : PySem.W.codeIn K cd11 "Side._lengthen" = true)
    (k11 : PySem.W.keepIn K (.ref fL) = true)
    (l12 : K.lookup fT = some ⟨oc12, od12, .func (PySem.W.fnOf "__init__" "Ties.__init__" (defArgs s_Ties_init) (defBody s_Ties_init) (defScope s_Ties_init) .none kV12 dc12 pm12 an12 cd12 ct12), sl12⟩)
    (u12 : PySem.W.codeIn K cd12 "Ties.__init__" = true)
    (k12 : PySem.W.keepIn K (.ref fT) = true)
    (l13 : K.lookup fAd = some ⟨oc13, od13, .func (PySem.W.fnOf "add_tie" "Ties.add_tie" (defArgs s_Ties_add_tie) (defBody s_Ties_add_tie) (defScope s_Ties_add_tie) .none kV13 dc13 pm13 an13 cd13 ct13), sl13⟩)
    (u13 : PySem.W.codeIn K cd13 "Ties.add_tie" = true)
    (k13 : PySem.W.keepIn K (.ref fAd) = true)
    (l14 : K.lookup fAk = some ⟨oc14, od14, .func (PySem.W.fnOf "add_known" "Ties.add_known" (defArgs s_Ties_add_known) (defBody s_Ties_add_known) (defScope s_Ties_add_known) .none kV14 dc14 pm14 an14 cd14 ct14), sl14⟩)
    (u14 : PySem.W.codeIn K cd14 "Ties.add_known" = true)
    (k14 : PySem.W.keepIn K (.ref fAk) = true)
    (l15 : K.lookup fSr = some ⟨oc15, od15, .func (PySem.W.fnOf "sure" "Ties.sure" (defArgs s_Ties_sure) (defBody s_Ties_sure) (defScope s_Ties_sure) .none kV15 dc15 pm15 an15 cd15 ct15), sl15⟩)
    (u15 : PySem.W.codeIn K cd15 "Ties.sure" = true)
    (k15 : PySem.W.keepIn K (.ref fSr) = true)
    (l16 : K.lookup fWa = some ⟨oc16, od16, .func (PySem.W.fnOf "_ways" "Ties._ways" (defArgs s_Ties_ways) (defBody s_Ties_ways) (defScope s_Ties_ways) .none kV16 dc16 pm16 an16 cd16 ct16), sl16⟩)
    (u16 : PySem.W.codeIn K cd16 "Ties._ways" = true)
    (k16 : PySem.W.keepIn K (.ref fWa) = true)
    (l17 : K.lookup fHe = some ⟨oc17, od17, .func (PySem.W.fnOf "_heights" "Ties._heights" (defArgs s_Ties_heights) (defBody s_Ties_heights) (defScope s_Ties_heights) .none kV17 dc17 pm17 an17 cd17 ct17), sl17⟩)
    (u17 : PySem.W.codeIn K cd17 "Ties._heights" = true)
    (k17 : PySem.W.keepIn K (.ref fHe) = true)
    (l18 : K.lookup fEx = some ⟨oc18, od18, .func (PySem.W.fnOf "_extend" "Ties._extend" (defArgs s_Ties_extend) (defBody s_Ties_extend) (defScope s_Ties_extend) .none kV18 dc18 pm18 an18 cd18 ct18), sl18⟩)
    (u18 : PySem.W.codeIn K cd18 "Ties._extend" = true)
    (k18 : PySem.W.keepIn K (.ref fEx) = true)
    (l19 : K.lookup fRi = some ⟨oc19, od19, .func (PySem.W.fnOf "rise" "Sums.rise" (defArgs s_Sums_rise) (defBody s_Sums_rise) (defScope s_Sums_rise) .none kV19 dc19 pm19 an19 cd19 ct19), sl19⟩)
    (u19 : PySem.W.codeIn K cd19 "Sums.rise" = true)
    (k19 : PySem.W.keepIn K (.ref fRi) = true)
    (p20 : PySem.W.nsIn K mainGlobals "is_rule" = some (some (.ref g_is_rule)))
    (l20 : K.lookup g_is_rule = some ⟨oc20, od20, .func (PySem.W.fnOf "is_rule" "is_rule" (defArgs s_is_rule) (defBody s_is_rule) (defScope s_is_rule) .none kV20 dc20 pm20 an20 cd20 ct20), sl20⟩)
    (u20 : PySem.W.codeIn K cd20 "is_rule" = true)
    (k20 : PySem.W.keepIn K (.ref g_is_rule) = true)
    (p21 : PySem.W.nsIn K mainGlobals "highest_least" = some (some (.ref g_highest_least)))
    (l21 : K.lookup g_highest_least = some ⟨oc21, od21, .func (PySem.W.fnOf "highest_least" "highest_least" (defArgs s_highest_least) (defBody s_highest_least) (defScope s_highest_least) .none kV21 dc21 pm21 an21 cd21 ct21), sl21⟩)
    (u21 : PySem.W.codeIn K cd21 "highest_least" = true)
    (k21 : PySem.W.keepIn K (.ref g_highest_least) = true)
    (p22 : PySem.W.nsIn K mainGlobals "lowest_most" = some (some (.ref g_lowest_most)))
    (l22 : K.lookup g_lowest_most = some ⟨oc22, od22, .func (PySem.W.fnOf "lowest_most" "lowest_most" (defArgs s_lowest_most) (defBody s_lowest_most) (defScope s_lowest_most) .none kV22 dc22 pm22 an22 cd22 ct22), sl22⟩)
    (u22 : PySem.W.codeIn K cd22 "lowest_most" = true)
    (k22 : PySem.W.keepIn K (.ref g_lowest_most) = true)
    (p23 : PySem.W.nsIn K mainGlobals "first_conflict" = some (some (.ref g_first_conflict)))
    (l23 : K.lookup g_first_conflict = some ⟨oc23, od23, .func (PySem.W.fnOf "first_conflict" "first_conflict" (defArgs s_first_conflict) (defBody s_first_conflict) (defScope s_first_conflict) .none kV23 dc23 pm23 an23 cd23 ct23), sl23⟩)
    (u23 : PySem.W.codeIn K cd23 "first_conflict" = true)
    (k23 : PySem.W.keepIn K (.ref g_first_conflict) = true)
    (p24 : PySem.W.nsIn K mainGlobals "first_exceeded" = some (some (.ref g_first_exceeded)))
    (l24 : K.lookup g_first_exceeded = some ⟨oc24, od24, .func (PySem.W.fnOf "first_exceeded" "first_exceeded" (defArgs s_first_exceeded) (defBody s_first_exceeded) (defScope s_first_exceeded) .none kV24 dc24 pm24 an24 cd24 ct24), sl24⟩)
    (u24 : PySem.W.codeIn K cd24 "first_exceeded" = true)
    (k24 : PySem.W.keepIn K (.ref g_first_exceeded) = true)
    (p25 : PySem.W.nsIn K mainGlobals "check_rows" = some (some (.ref g_check_rows)))
    (l25 : K.lookup g_check_rows = some ⟨oc25, od25, .func (PySem.W.fnOf "check_rows" "check_rows" (defArgs s_check_rows) (defBody s_check_rows) (defScope s_check_rows) .none kV25 dc25 pm25 an25 cd25 ct25), sl25⟩)
    (u25 : PySem.W.codeIn K cd25 "check_rows" = true)
    (k25 : PySem.W.keepIn K (.ref g_check_rows) = true)
    (p26 : PySem.W.nsIn K mainGlobals "least_keys" = some (some (.ref g_least_keys)))
    (l26 : K.lookup g_least_keys = some ⟨oc26, od26, .func (PySem.W.fnOf "least_keys" "least_keys" (defArgs s_least_keys) (defBody s_least_keys) (defScope s_least_keys) .none kV26 dc26 pm26 an26 cd26 ct26), sl26⟩)
    (u26 : PySem.W.codeIn K cd26 "least_keys" = true)
    (k26 : PySem.W.keepIn K (.ref g_least_keys) = true)
    (p27 : PySem.W.nsIn K mainGlobals "strictest" = some (some (.ref g_strictest)))
    (l27 : K.lookup g_strictest = some ⟨oc27, od27, .func (PySem.W.fnOf "strictest" "strictest" (defArgs s_strictest) (defBody s_strictest) (defScope s_strictest) .none kV27 dc27 pm27 an27 cd27 ct27), sl27⟩)
    (u27 : PySem.W.codeIn K cd27 "strictest" = true)
    (k27 : PySem.W.keepIn K (.ref g_strictest) = true)
    (p28 : PySem.W.nsIn K mainGlobals "near_sums" = some (some (.ref g_near_sums)))
    (l28 : K.lookup g_near_sums = some ⟨oc28, od28, .func (PySem.W.fnOf "near_sums" "near_sums" (defArgs s_near_sums) (defBody s_near_sums) (defScope s_near_sums) .none kV28 dc28 pm28 an28 cd28 ct28), sl28⟩)
    (u28 : PySem.W.codeIn K cd28 "near_sums" = true)
    (k28 : PySem.W.keepIn K (.ref g_near_sums) = true)
    (p29 : PySem.W.nsIn K mainGlobals "needed_steps" = some (some (.ref g_needed_steps)))
    (l29 : K.lookup g_needed_steps = some ⟨oc29, od29, .func (PySem.W.fnOf "needed_steps" "needed_steps" (defArgs s_needed_steps) (defBody s_needed_steps) (defScope s_needed_steps) .none kV29 dc29 pm29 an29 cd29 ct29), sl29⟩)
    (u29 : PySem.W.codeIn K cd29 "needed_steps" = true)
    (k29 : PySem.W.keepIn K (.ref g_needed_steps) = true)
    (p30 : PySem.W.nsIn K mainGlobals "spread" = some (some (.ref g_spread)))
    (l30 : K.lookup g_spread = some ⟨oc30, od30, .func (PySem.W.fnOf "spread" "spread" (defArgs s_spread) (defBody s_spread) (defScope s_spread) .none kV30 dc30 pm30 an30 cd30 ct30), sl30⟩)
    (u30 : PySem.W.codeIn K cd30 "spread" = true)
    (k30 : PySem.W.keepIn K (.ref g_spread) = true)
    (p31 : PySem.W.nsIn K mainGlobals "sums_of" = some (some (.ref g_sums_of)))
    (l31 : K.lookup g_sums_of = some ⟨oc31, od31, .func (PySem.W.fnOf "sums_of" "sums_of" (defArgs s_sums_of) (defBody s_sums_of) (defScope s_sums_of) .none kV31 dc31 pm31 an31 cd31 ct31), sl31⟩)
    (u31 : PySem.W.codeIn K cd31 "sums_of" = true)
    (k31 : PySem.W.keepIn K (.ref g_sums_of) = true)
    (p32 : PySem.W.nsIn K mainGlobals "check_length" = some (some (.ref g_check_length)))
    (l32 : K.lookup g_check_length = some ⟨oc32, od32, .func (PySem.W.fnOf "check_length" "check_length" (defArgs s_check_length) (defBody s_check_length) (defScope s_check_length) .none kV32 dc32 pm32 an32 cd32 ct32), sl32⟩)
    (u32 : PySem.W.codeIn K cd32 "check_length" = true)
    (k32 : PySem.W.keepIn K (.ref g_check_length) = true)
    (p33 : PySem.W.nsIn K mainGlobals "greatest_sum" = some (some (.ref g_greatest_sum)))
    (l33 : K.lookup g_greatest_sum = some ⟨oc33, od33, .func (PySem.W.fnOf "greatest_sum" "greatest_sum" (defArgs s_greatest_sum) (defBody s_greatest_sum) (defScope s_greatest_sum) .none kV33 dc33 pm33 an33 cd33 ct33), sl33⟩)
    (u33 : PySem.W.codeIn K cd33 "greatest_sum" = true)
    (k33 : PySem.W.keepIn K (.ref g_greatest_sum) = true)
    (p34 : PySem.W.nsIn K mainGlobals "least_sum" = some (some (.ref g_least_sum)))
    (l34 : K.lookup g_least_sum = some ⟨oc34, od34, .func (PySem.W.fnOf "least_sum" "least_sum" (defArgs s_least_sum) (defBody s_least_sum) (defScope s_least_sum) .none kV34 dc34 pm34 an34 cd34 ct34), sl34⟩)
    (u34 : PySem.W.codeIn K cd34 "least_sum" = true)
    (k34 : PySem.W.keepIn K (.ref g_least_sum) = true)
    (p35 : PySem.W.nsIn K mainGlobals "shares" = some (some (.ref g_shares)))
    (l35 : K.lookup g_shares = some ⟨oc35, od35, .func (PySem.W.fnOf "shares" "shares" (defArgs s_shares) (defBody s_shares) (defScope s_shares) .none kV35 dc35 pm35 an35 cd35 ct35), sl35⟩)
    (u35 : PySem.W.codeIn K cd35 "shares" = true)
    (k35 : PySem.W.keepIn K (.ref g_shares) = true)
    (p36 : PySem.W.nsIn K mainGlobals "lowest_terms" = some (some (.ref g_lowest_terms)))
    (l36 : K.lookup g_lowest_terms = some ⟨oc36, od36, .func (PySem.W.fnOf "lowest_terms" "lowest_terms" (defArgs s_lowest_terms) (defBody s_lowest_terms) (defScope s_lowest_terms) .none kV36 dc36 pm36 an36 cd36 ct36), sl36⟩)
    (u36 : PySem.W.codeIn K cd36 "lowest_terms" = true)
    (k36 : PySem.W.keepIn K (.ref g_lowest_terms) = true)
    (p37 : PySem.W.nsIn K mainGlobals "least_joined" = some (some (.ref g_least_joined)))
    (l37 : K.lookup g_least_joined = some ⟨oc37, od37, .func (PySem.W.fnOf "least_joined" "least_joined" (defArgs s_least_joined) (defBody s_least_joined) (defScope s_least_joined) .none kV37 dc37 pm37 an37 cd37 ct37), sl37⟩)
    (u37 : PySem.W.codeIn K cd37 "least_joined" = true)
    (k37 : PySem.W.keepIn K (.ref g_least_joined) = true)
    (p38 : PySem.W.nsIn K mainGlobals "tied" = some (some (.ref g_tied)))
    (l38 : K.lookup g_tied = some ⟨oc38, od38, .func (PySem.W.fnOf "tied" "tied" (defArgs s_tied) (defBody s_tied) (defScope s_tied) .none kV38 dc38 pm38 an38 cd38 ct38), sl38⟩)
    (u38 : PySem.W.codeIn K cd38 "tied" = true)
    (k38 : PySem.W.keepIn K (.ref g_tied) = true)
    (p39 : PySem.W.nsIn K mainGlobals "check_known" = some (some (.ref g_check_known)))
    (l39 : K.lookup g_check_known = some ⟨oc39, od39, .func (PySem.W.fnOf "check_known" "check_known" (defArgs s_check_known) (defBody s_check_known) (defScope s_check_known) .none kV39 dc39 pm39 an39 cd39 ct39), sl39⟩)
    (u39 : PySem.W.codeIn K cd39 "check_known" = true)
    (k39 : PySem.W.keepIn K (.ref g_check_known) = true)
    (p40 : PySem.W.nsIn K mainGlobals "first_wrong" = some (some (.ref g_first_wrong)))
    (l40 : K.lookup g_first_wrong = some ⟨oc40, od40, .func (PySem.W.fnOf "first_wrong" "first_wrong" (defArgs s_first_wrong) (defBody s_first_wrong) (defScope s_first_wrong) .none kV40 dc40 pm40 an40 cd40 ct40), sl40⟩)
    (u40 : PySem.W.codeIn K cd40 "first_wrong" = true)
    (k40 : PySem.W.keepIn K (.ref g_first_wrong) = true)
    (p41 : PySem.W.nsIn K mainGlobals "sure_sums" = some (some (.ref g_sure_sums)))
    (l41 : K.lookup g_sure_sums = some ⟨oc41, od41, .func (PySem.W.fnOf "sure_sums" "sure_sums" (defArgs s_sure_sums) (defBody s_sure_sums) (defScope s_sure_sums) .none kV41 dc41 pm41 an41 cd41 ct41), sl41⟩)
    (u41 : PySem.W.codeIn K cd41 "sure_sums" = true)
    (k41 : PySem.W.keepIn K (.ref g_sure_sums) = true)
    (p42 : PySem.W.nsIn K mainGlobals "strictest_least" = some (some (.ref g_strictest_least)))
    (l42 : K.lookup g_strictest_least = some ⟨oc42, od42, .func (PySem.W.fnOf "strictest_least" "strictest_least" (defArgs s_strictest_least) (defBody s_strictest_least) (defScope s_strictest_least) .none kV42 dc42 pm42 an42 cd42 ct42), sl42⟩)
    (u42 : PySem.W.codeIn K cd42 "strictest_least" = true)
    (k42 : PySem.W.keepIn K (.ref g_strictest_least) = true)
    (p43 : PySem.W.nsIn K mainGlobals "strictest_most" = some (some (.ref g_strictest_most)))
    (l43 : K.lookup g_strictest_most = some ⟨oc43, od43, .func (PySem.W.fnOf "strictest_most" "strictest_most" (defArgs s_strictest_most) (defBody s_strictest_most) (defScope s_strictest_most) .none kV43 dc43 pm43 an43 cd43 ct43), sl43⟩)
    (u43 : PySem.W.codeIn K cd43 "strictest_most" = true)
    (k43 : PySem.W.keepIn K (.ref g_strictest_most) = true)
    (p44 : PySem.W.nsIn K mainGlobals "check_width" = some (some (.ref g_check_width)))
    (l44 : K.lookup g_check_width = some ⟨oc44, od44, .func (PySem.W.fnOf "check_width" "check_width" (defArgs s_check_width) (defBody s_check_width) (defScope s_check_width) .none kV44 dc44 pm44 an44 cd44 ct44), sl44⟩)
    (u44 : PySem.W.codeIn K cd44 "check_width" = true)
    (k44 : PySem.W.keepIn K (.ref g_check_width) = true)
    (p45 : PySem.W.nsIn K mainGlobals "_law_pool" = some (some (.ref g_law_pool)))
    (l45 : K.lookup g_law_pool = some ⟨oc45, od45, .func (PySem.W.fnOf "_law_pool" "_law_pool" (defArgs s_pool) (defBody s_pool) (defScope s_pool) .none kV45 dc45 pm45 an45 cd45 ct45), sl45⟩)
    (u45 : PySem.W.codeIn K cd45 "_law_pool" = true)
    (k45 : PySem.W.keepIn K (.ref g_law_pool) = true)
    (p46 : PySem.W.nsIn K mainGlobals "_law_draw" = some (some (.ref g_law_draw)))
    (l46 : K.lookup g_law_draw = some ⟨oc46, od46, .func (PySem.W.fnOf "_law_draw" "_law_draw" (defArgs s_draw) (defBody s_draw) (defScope s_draw) .none kV46 dc46 pm46 an46 cd46 ct46), sl46⟩)
    (u46 : PySem.W.codeIn K cd46 "_law_draw" = true)
    (k46 : PySem.W.keepIn K (.ref g_law_draw) = true)
    (p47 : PySem.W.nsIn K mainGlobals "_law_kind" = some (some (.ref g_law_kind)))
    (l47 : K.lookup g_law_kind = some ⟨oc47, od47, .func (PySem.W.fnOf "_law_kind" "_law_kind" (defArgs s_kind) (defBody s_kind) (defScope s_kind) .none kV47 dc47 pm47 an47 cd47 ct47), sl47⟩)
    (u47 : PySem.W.codeIn K cd47 "_law_kind" = true)
    (k47 : PySem.W.keepIn K (.ref g_law_kind) = true)
    (p48 : PySem.W.nsIn K mainGlobals "_law_made" = some (some (.ref g_law_made)))
    (l48 : K.lookup g_law_made = some ⟨oc48, od48, .func (PySem.W.fnOf "_law_made" "_law_made" (defArgs s_made) (defBody s_made) (defScope s_made) .none kV48 dc48 pm48 an48 cd48 ct48), sl48⟩)
    (u48 : PySem.W.codeIn K cd48 "_law_made" = true)
    (k48 : PySem.W.keepIn K (.ref g_law_made) = true)
    (p49 : PySem.W.nsIn K mainGlobals "_law_shares" = some (some (.ref g_law_shares)))
    (l49 : K.lookup g_law_shares = some ⟨oc49, od49, .func (PySem.W.fnOf "_law_shares" "_law_shares" (defArgs s_law_shares) (defBody s_law_shares) (defScope s_law_shares) .none kV49 dc49 pm49 an49 cd49 ct49), sl49⟩)
    (u49 : PySem.W.codeIn K cd49 "_law_shares" = true)
    (k49 : PySem.W.keepIn K (.ref g_law_shares) = true)
    (p50 : PySem.W.nsIn K mainGlobals "_law_amount" = some (some (.ref g_law_amount)))
    (l50 : K.lookup g_law_amount = some ⟨oc50, od50, .func (PySem.W.fnOf "_law_amount" "_law_amount" (defArgs s_amount) (defBody s_amount) (defScope s_amount) .none kV50 dc50 pm50 an50 cd50 ct50), sl50⟩)
    (u50 : PySem.W.codeIn K cd50 "_law_amount" = true)
    (k50 : PySem.W.keepIn K (.ref g_law_amount) = true)
    (p51 : PySem.W.nsIn K mainGlobals "_law_ties_of" = some (some (.ref g_law_ties_of)))
    (l51 : K.lookup g_law_ties_of = some ⟨oc51, od51, .func (PySem.W.fnOf "_law_ties_of" "_law_ties_of" (defArgs s_ties_of) (defBody s_ties_of) (defScope s_ties_of) .none kV51 dc51 pm51 an51 cd51 ct51), sl51⟩)
    (u51 : PySem.W.codeIn K cd51 "_law_ties_of" = true)
    (k51 : PySem.W.keepIn K (.ref g_law_ties_of) = true)
    (p52 : PySem.W.nsIn K mainGlobals "_law_right" = some (some (.ref g_law_right)))
    (l52 : K.lookup g_law_right = some ⟨oc52, od52, .func (PySem.W.fnOf "_law_right" "_law_right" (defArgs s_right) (defBody s_right) (defScope s_right) .none kV52 dc52 pm52 an52 cd52 ct52), sl52⟩)
    (u52 : PySem.W.codeIn K cd52 "_law_right" = true)
    (k52 : PySem.W.keepIn K (.ref g_law_right) = true)
    (p53 : PySem.W.nsIn K mainGlobals "law" = some (some (.ref g_law)))
    (l53 : K.lookup g_law = some ⟨oc53, od53, .func (PySem.W.fnOf "law" "law" (defArgs s_law) (defBody s_law) (defScope s_law) .none kV53 dc53 pm53 an53 cd53 ct53), sl53⟩)
    (u53 : PySem.W.codeIn K cd53 "law" = true)
    (k53 : PySem.W.keepIn K (.ref g_law) = true)
    (z_int : PySem.W.nsIn K mainGlobals "int" = some none)
    (z_max : PySem.W.nsIn K mainGlobals "max" = some none)
    (z_min : PySem.W.nsIn K mainGlobals "min" = some none)
    (z_abs : PySem.W.nsIn K mainGlobals "abs" = some none)
    (z_len : PySem.W.nsIn K mainGlobals "len" = some none)
    (z_repr : PySem.W.nsIn K mainGlobals "repr" = some none)
    (z_isinstance : PySem.W.nsIn K mainGlobals "isinstance" = some none)
    (z_range : PySem.W.nsIn K mainGlobals "range" = some none)
    (z_str : PySem.W.nsIn K mainGlobals "str" = some none)
    (z_list : PySem.W.nsIn K mainGlobals "list" = some none)
    (z_enumerate : PySem.W.nsIn K mainGlobals "enumerate" = some none)
    (z_divmod : PySem.W.nsIn K mainGlobals "divmod" = some none)
    (z_zip : PySem.W.nsIn K mainGlobals "zip" = some none)
    (z_ValueError : PySem.W.nsIn K mainGlobals "ValueError" = some none)
    (z_reversed : PySem.W.nsIn K mainGlobals "reversed" = some none) :
    ∃ fd : FuncData, (∀ (s : PySem.Shared) (u : Value), BindsTo s fd ⟨[u], []⟩ [("script", u)]) ∧ ∀ base : Heap, K.In base → base.Ns mainGlobals mg → FnG P w K mg base CX0 11 fa fd ["script"] (spLaw K) := by
  have e := hfa.symm.trans (PySem.W.mg_of X G p53)
  cases e
  have F0 := fun_mk (st := s_SpanError_init) l0 u0 k0
  have b0 := F0.binds (ps := ["self", "value"]) fun _ _ _ _ _ _ us hl => match us, hl with | [_, _], _ => rfl
  have F1 := fun_mk (st := s_Book_init) l1 u1 k1
  have b1 := F1.binds (ps := ["self", "low", "high", "rules"]) fun _ _ _ _ _ _ us hl => match us, hl with | [_, _, _, _], _ => rfl
  have F2 := fun_mk (st := s_Book_bounds) l2 u2 k2
  have b2 := F2.binds (ps := ["self"]) fun _ _ _ _ _ _ us hl => match us, hl with | [_], _ => rfl
  have F3 := fun_mk (st := s_Book_conflict) l3 u3 k3
  have b3 := F3.binds (ps := ["self"]) fun _ _ _ _ _ _ us hl => match us, hl with | [_], _ => rfl
  have F4 := fun_mk (st := s_Book_sums) l4 u4 k4
  have b4 := F4.binds (ps := ["self"]) fun _ _ _ _ _ _ us hl => match us, hl with | [_], _ => rfl
  have F5 := fun_mk (st := s_Sums_init) l5 u5 k5
  have b5 := F5.binds (ps := ["self", "up", "down"]) fun _ _ _ _ _ _ us hl => match us, hl with | [_, _, _], _ => rfl
  have F6 := fun_mk (st := s_Sums_greatest) l6 u6 k6
  have b6 := F6.binds (ps := ["self", "length"]) fun _ _ _ _ _ _ us hl => match us, hl with | [_, _], _ => rfl
  have F7 := fun_mk (st := s_Sums_least) l7 u7 k7
  have b7 := F7.binds (ps := ["self", "length"]) fun _ _ _ _ _ _ us hl => match us, hl with | [_, _], _ => rfl
  have F8 := fun_mk (st := s_Side_init) l8 u8 k8
  have b8 := F8.binds (ps := ["self", "near", "steps"]) fun _ _ _ _ _ _ us hl => match us, hl with | [_, _, _], _ => rfl
  have F9 := fun_mk (st := s_Side_greatest) l9 u9 k9
  have b9 := F9.binds (ps := ["self", "length"]) fun _ _ _ _ _ _ us hl => match us, hl with | [_, _], _ => rfl
  have F10 := fun_mk (st := s_Side_find_far) l10 u10 k10
  have b10 := F10.binds (ps := ["self"]) fun _ _ _ _ _ _ us hl => match us, hl with | [_], _ => rfl
  have F11 := fun_mk (st := s_Side_lengthen) l11 u11 k11
  have b11 := F11.binds (ps := ["self", "length"]) fun _ _ _ _ _ _ us hl => match us, hl with | [_, _], _ => rfl
  have F12 := fun_mk (st := s_Ties_init) l12 u12 k12
  have b12 := F12.binds (ps := ["self", "sums"]) fun _ _ _ _ _ _ us hl => match us, hl with | [_, _], _ => rfl
  have F13 := fun_mk (st := s_Ties_add_tie) l13 u13 k13
  have b13 := F13.binds (ps := ["self", "first", "last", "total"]) fun _ _ _ _ _ _ us hl => match us, hl with | [_, _, _, _], _ => rfl
  have F14 := fun_mk (st := s_Ties_add_known) l14 u14 k14
  have b14 := F14.binds (ps := ["self", "known"]) fun _ _ _ _ _ _ us hl => match us, hl with | [_, _], _ => rfl
  have F15 := fun_mk (st := s_Ties_sure) l15 u15 k15
  have b15 := F15.binds (ps := ["self", "first", "last"]) fun _ _ _ _ _ _ us hl => match us, hl with | [_, _, _], _ => rfl
  have F16 := fun_mk (st := s_Ties_ways) l16 u16 k16
  have b16 := F16.binds (ps := ["self", "place"]) fun _ _ _ _ _ _ us hl => match us, hl with | [_, _], _ => rfl
  have F17 := fun_mk (st := s_Ties_heights) l17 u17 k17
  have b17 := F17.binds (ps := ["self", "days", "ways", "last_ways"]) fun _ _ _ _ _ _ us hl => match us, hl with | [_, _, _, _], _ => rfl
  have F18 := fun_mk (st := s_Ties_extend) l18 u18 k18
  have b18 := F18.binds (ps := ["self", "leaving", "coming"]) fun _ _ _ _ _ _ us hl => match us, hl with | [_, _, _], _ => rfl
  have F19 := fun_mk (st := s_Sums_rise) l19 u19 k19
  have b19 := F19.binds (ps := ["self", "days"]) fun _ _ _ _ _ _ us hl => match us, hl with | [_, _], _ => rfl
  have F20 := fun_mk (st := s_is_rule) l20 u20 k20
  have b20 := F20.binds (ps := ["rule"]) fun _ _ _ _ _ _ us hl => match us, hl with | [_], _ => rfl
  have F21 := fun_mk (st := s_highest_least) l21 u21 k21
  have b21 := F21.binds (ps := ["bounds"]) fun _ _ _ _ _ _ us hl => match us, hl with | [_], _ => rfl
  have F22 := fun_mk (st := s_lowest_most) l22 u22 k22
  have b22 := F22.binds (ps := ["bounds"]) fun _ _ _ _ _ _ us hl => match us, hl with | [_], _ => rfl
  have F23 := fun_mk (st := s_first_conflict) l23 u23 k23
  have b23 := F23.binds (ps := ["bounds"]) fun _ _ _ _ _ _ us hl => match us, hl with | [_], _ => rfl
  have F24 := fun_mk (st := s_first_exceeded) l24 u24 k24
  have b24 := F24.binds (ps := ["bounds", "width", "least"]) fun _ _ _ _ _ _ us hl => match us, hl with | [_, _, _], _ => rfl
  have F25 := fun_mk (st := s_check_rows) l25 u25 k25
  have b25 := F25.binds (ps := ["book"]) fun _ _ _ _ _ _ us hl => match us, hl with | [_], _ => rfl
  have F26 := fun_mk (st := s_least_keys) l26 u26 k26
  have b26 := F26.binds (ps := ["moves", "reach"]) fun _ _ _ _ _ _ us hl => match us, hl with | [_, _], _ => rfl
  have F27 := fun_mk (st := s_strictest) l27 u27 k27
  have b27 := F27.binds (ps := ["steps"]) fun _ _ _ _ _ _ us hl => match us, hl with | [_], _ => rfl
  have F28 := fun_mk (st := s_near_sums) l28 u28 k28
  have b28 := F28.binds (ps := ["ups", "downs"]) fun _ _ _ _ _ _ us hl => match us, hl with | [_, _], _ => rfl
  have F29 := fun_mk (st := s_needed_steps) l29 u29 k29
  have b29 := F29.binds (ps := ["steps", "back"]) fun _ _ _ _ _ _ us hl => match us, hl with | [_, _], _ => rfl
  have F30 := fun_mk (st := s_spread) l30 u30 k30
  have b30 := F30.binds (ps := ["table", "width", "more"]) fun _ _ _ _ _ _ us hl => match us, hl with | [_, _, _], _ => rfl
  have F31 := fun_mk (st := s_sums_of) l31 u31 k31
  have b31 := F31.binds (ps := ["bounds"]) fun _ _ _ _ _ _ us hl => match us, hl with | [_], _ => rfl
  have F32 := fun_mk (st := s_check_length) l32 u32 k32
  have b32 := F32.binds (ps := ["length"]) fun _ _ _ _ _ _ us hl => match us, hl with | [_], _ => rfl
  have F33 := fun_mk (st := s_greatest_sum) l33 u33 k33
  have b33 := F33.binds (ps := ["book", "length"]) fun _ _ _ _ _ _ us hl => match us, hl with | [_, _], _ => rfl
  have F34 := fun_mk (st := s_least_sum) l34 u34 k34
  have b34 := F34.binds (ps := ["book", "length"]) fun _ _ _ _ _ _ us hl => match us, hl with | [_, _], _ => rfl
  have F35 := fun_mk (st := s_shares) l35 u35 k35
  have b35 := F35.binds (ps := ["book"]) fun _ _ _ _ _ _ us hl => match us, hl with | [_], _ => rfl
  have F36 := fun_mk (st := s_lowest_terms) l36 u36 k36
  have b36 := F36.binds (ps := ["above", "below"]) fun _ _ _ _ _ _ us hl => match us, hl with | [_, _], _ => rfl
  have F37 := fun_mk (st := s_least_joined) l37 u37 k37
  have b37 := F37.binds (ps := ["worths", "other_worths"]) fun _ _ _ _ _ _ us hl => match us, hl with | [_, _], _ => rfl
  have F38 := fun_mk (st := s_tied) l38 u38 k38
  have b38 := F38.binds (ps := ["sums", "known"]) fun _ _ _ _ _ _ us hl => match us, hl with | [_, _], _ => rfl
  have F39 := fun_mk (st := s_check_known) l39 u39 k39
  have b39 := F39.binds (ps := ["known"]) fun _ _ _ _ _ _ us hl => match us, hl with | [_], _ => rfl
  have F40 := fun_mk (st := s_first_wrong) l40 u40 k40
  have b40 := F40.binds (ps := ["book", "known"]) fun _ _ _ _ _ _ us hl => match us, hl with | [_, _], _ => rfl
  have F41 := fun_mk (st := s_sure_sums) l41 u41 k41
  have b41 := F41.binds (ps := ["book", "known", "begin", "length"]) fun _ _ _ _ _ _ us hl => match us, hl with | [_, _, _, _], _ => rfl
  have F42 := fun_mk (st := s_strictest_least) l42 u42 k42
  have b42 := F42.binds (ps := ["book", "width"]) fun _ _ _ _ _ _ us hl => match us, hl with | [_, _], _ => rfl
  have F43 := fun_mk (st := s_strictest_most) l43 u43 k43
  have b43 := F43.binds (ps := ["book", "width"]) fun _ _ _ _ _ _ us hl => match us, hl with | [_, _], _ => rfl
  have F44 := fun_mk (st := s_check_width) l44 u44 k44
  have b44 := F44.binds (ps := ["width"]) fun _ _ _ _ _ _ us hl => match us, hl with | [_], _ => rfl
  have F45 := fun_mk (st := s_pool) l45 u45 k45
  have b45 := F45.binds (ps := ["script", "spot"]) fun _ _ _ _ _ _ us hl => match us, hl with | [_, _], _ => rfl
  have F46 := fun_mk (st := s_draw) l46 u46 k46
  have b46 := F46.binds (ps := ["pool", "many"]) fun _ _ _ _ _ _ us hl => match us, hl with | [_, _], _ => rfl
  have F47 := fun_mk (st := s_kind) l47 u47 k47
  have b47 := F47.binds (ps := ["pool", "wide", "often"]) fun _ _ _ _ _ _ us hl => match us, hl with | [_, _, _], _ => rfl
  have F48 := fun_mk (st := s_made) l48 u48 k48
  have b48 := F48.binds (ps := ["kind"]) fun _ _ _ _ _ _ us hl => match us, hl with | [_], _ => rfl
  have F49 := fun_mk (st := s_law_shares) l49 u49 k49
  have b49 := F49.binds (ps := ["kind"]) fun _ _ _ _ _ _ us hl => match us, hl with | [_], _ => rfl
  have F50 := fun_mk (st := s_amount) l50 u50 k50
  have b50 := F50.binds (ps := ["share", "phase", "first_one", "size"]) fun _ _ _ _ _ _ us hl => match us, hl with | [_, _, _, _], _ => rfl
  have F51 := fun_mk (st := s_ties_of) l51 u51 k51
  have b51 := F51.binds (ps := ["pool", "share"]) fun _ _ _ _ _ _ us hl => match us, hl with | [_, _], _ => rfl
  have F52 := fun_mk (st := s_right) l52 u52 k52
  have b52 := F52.binds (ps := ["pool"]) fun _ _ _ _ _ _ us hl => match us, hl with | [_], _ => rfl
  have F53 := fun_mk (st := s_law) l53 u53 k53
  refine ⟨PySem.W.fnOf "law" "law" (defArgs s_law) (defBody s_law) (defScope s_law) .none kV53 dc53 pm53 an53 cd53 ct53, fun s u => .of_eq rfl, fun base _ _ => ?_⟩
  have tb : TxB K mg fI cD cR cB fB fN := ⟨⟨PySem.W.mg_none_of X G z_int, PySem.W.mg_none_of X G z_max, PySem.W.mg_none_of X G z_min, PySem.W.mg_none_of X G z_abs, PySem.W.mg_none_of X G z_len, PySem.W.mg_none_of X G z_repr, PySem.W.mg_none_of X G z_isinstance, PySem.W.mg_none_of X G z_range, PySem.W.mg_none_of X G z_str, PySem.W.mg_none_of X G z_list, PySem.W.mg_none_of X G z_enumerate, PySem.W.mg_none_of X G z_divmod, PySem.W.mg_none_of X G z_zip, PySem.W.mg_none_of X G z_ValueError⟩, eD, eR, ⟨pg, hd, po, sa⟩, n1, n2, n3, n4, n5, n6, ⟨m_fB, i_fB, k2⟩, ⟨bm, bi, bf, bk⟩, PySem.W.mg_of X G aB⟩
  have th : TxH mg := ⟨PySem.W.mg_of X G h_heappush, PySem.W.mg_of X G h_heappop, PySem.W.mg_of X G h_gcd⟩
  have tS : TxS K cS := ⟨⟨pgS, hdS, poS, saS⟩, nS1, nS2, nS3, nS4, nS5, nS6, nS7⟩
  have tU : TxU K mg cM cS fS fM fG := ⟨⟨pgM, hdM, poM, saM⟩, nM1, nM2, nM3, ⟨mmS, miS, mfS, mkS⟩, PySem.W.mg_of X G aS, ⟨mmM, miM, mfM, mkM⟩, PySem.W.mg_of X G aM, ⟨pgS, hdS, poS, saS⟩, ⟨m_fG, i_fG, k9⟩⟩
  have tM : TxM K cS fF fL := ⟨⟨m_fF, i_fF, k10⟩, ⟨m_fL, i_fL, k11⟩⟩
  have tV : TxV K cB cM fSu fGr fLe := ⟨⟨pgM, hdM, poM, saM⟩, ⟨m_fSu, i_fSu, k4⟩, ⟨m_fGr, i_fGr, k6⟩, ⟨m_fLe, i_fLe, k7⟩⟩
  have GI : FnOk P w K mg base CX0 1 fI _ ["self", "value"] (spInit K) := ok_init F0
  have GR : CalN P w K mg base 1 "is_rule" spIsRule := ⟨g_is_rule, _, _, ok_is_rule F20, PySem.W.mg_of X G p20, k20, b20⟩
  have GL : CalN P w K mg base 1 "lowest_most" (spLow K) := ⟨g_lowest_most, _, _, ok_lowest F22 tb.b, PySem.W.mg_of X G p22, k22, b22⟩
  have GH : CalN P w K mg base 1 "highest_least" (spHigh K) := ⟨g_highest_least, _, _, ok_highest F21 tb.b, PySem.W.mg_of X G p21, k21, b21⟩
  have GE : CalN P w K mg base 1 "first_exceeded" (spExc K) := ⟨g_first_exceeded, _, _, ok_exceeded F24 tb.b, PySem.W.mg_of X G p24, k24, b24⟩
  have GC : CalN P w K mg base 2 "first_conflict" (spConf K) := ⟨g_first_conflict, _, _, ok_conflict F23 tb.b GL GE, PySem.W.mg_of X G p23, k23, b23⟩
  have GB : FnOk P w K mg base CX0 1 fB _ ["self"] (spBnd cB) := ok_bounds F2 tb
  have GN := ok_binit (P := P) (w := w) (mg := mg) (base := base) F1 tb GI b0 GR GC GB b2
  have GCf := ok_cfl (P := P) (w := w) (mg := mg) (base := base) F3 tb
  have GT : CalN P w K mg base 1 "strictest" spStrictest := ⟨g_strictest, _, _, ok_strictest F27, PySem.W.mg_of X G p27, k27, b27⟩
  have GLK : CalN P w K mg base 1 "least_keys" (spLeast K) := ⟨g_least_keys, _, _, ok_least F26 tb.b th, PySem.W.mg_of X G p26, k26, b26⟩
  have GNE : CalN P w K mg base 2 "near_sums" spNear := ⟨g_near_sums, _, _, ok_near F28 tb.b GT GLK, PySem.W.mg_of X G p28, k28, b28⟩
  have GND : CalN P w K mg base 2 "needed_steps" spNeeded := ⟨g_needed_steps, _, _, ok_needed F29 tb.b GT, PySem.W.mg_of X G p29, k29, b29⟩
  have GSP : CalN P w K mg base 1 "spread" spSpread := ⟨g_spread, _, _, ok_spread F30 tb.b th, PySem.W.mg_of X G p30, k30, b30⟩
  have GSI := ok_sinit (P := P) (w := w) (mg := mg) (base := base) F8 tb.b tS GT
  have GFF := ok_sfind (P := P) (w := w) (mg := mg) (base := base) F10 tb.b tS GSP
  have GLN := ok_slen (P := P) (w := w) (mg := mg) (base := base) F11 tb.b tS
  have GG := ok_sgreat (P := P) (w := w) (mg := mg) (base := base) F9 tb.b tS tM GFF b10 GLN b11
  have GMI := ok_smi (P := P) (w := w) (mg := mg) (base := base) F5 tU
  have GSG := ok_sgr (P := P) (w := w) (mg := mg) (base := base) F6 tU GG b9
  have GSL := ok_sle (P := P) (w := w) (mg := mg) (base := base) F7 tU GG b9
  have GSO : CalN P w K mg base 4 "sums_of" (spSumsOf K cM cS) := ⟨g_sums_of, _, _, ok_sums_of F31 tb.b tU GND GNE GSI b8 GMI b5, PySem.W.mg_of X G p31, k31, b31⟩
  have GBS := ok_bsums (P := P) (w := w) (mg := mg) (base := base) F4 tb GSO GB b2
  have GRo : CalX P w K mg base 3 "check_rows" g_check_rows _ ["book"] (spRows cB cW) := ⟨ok_rows F25 tb eW GI b0 ⟨m_fC, i_fC, k3⟩ GCf b3, PySem.W.mg_of X G p25, k25, b25⟩
  have GLe : CalX P w K mg base 3 "check_length" g_check_length _ ["length"] (spLenOf cL) := ⟨ok_length F32 eL GI b0, PySem.W.mg_of X G p32, k32, b32⟩
  have GgS : CalX P w K mg base 6 "greatest_sum" g_greatest_sum _ ["book", "length"] (spGS cB cM cS cW cL true) := ⟨ok_greatest_sum F33 tb tV GRo GLe GBS b4 GSG b6 (by decide +kernel), PySem.W.mg_of X G p33, k33, b33⟩
  have GlS : CalX P w K mg base 6 "least_sum" g_least_sum _ ["book", "length"] (spGS cB cM cS cW cL false) := ⟨ok_least_sum F34 tb tV GRo GLe GBS b4 GSL b7 (by decide +kernel), PySem.W.mg_of X G p34, k34, b34⟩
  have GLT : CalN P w K mg base 1 "lowest_terms" spLT := ⟨g_lowest_terms, _, _, ok_lowest_terms F36 th, PySem.W.mg_of X G p36, k36, b36⟩
  have GSh : CalX P w K mg base 4 "shares" g_shares _ ["book"] (spSh cB cW) := ⟨ok_shares F35 tb GRo GL GH GLT GB b2, PySem.W.mg_of X G p35, k35, b35⟩
  have GP : CalN P w K mg base 1 "_law_pool" (spPool K) := ⟨g_law_pool, _, _, ok_pool F45 tb.b, PySem.W.mg_of X G p45, k45, b45⟩
  have GD : CalN P w K mg base 1 "_law_draw" spDraw := ⟨g_law_draw, _, _, ok_draw F46 tb.b, PySem.W.mg_of X G p46, k46, b46⟩
  have GK : CalN P w K mg base 2 "_law_kind" spKind := ⟨g_law_kind, _, _, ok_kind F47 tb.b GD, PySem.W.mg_of X G p47, k47, b47⟩
  have GM : CalN P w K mg base 6 "_law_made" (spMade cB) := ⟨g_law_made, _, _, ok_made F48 tb GN b1, PySem.W.mg_of X G p48, k48, b48⟩
  have tY : TxY K mg cT fT := ⟨⟨pgT, hdT, poT, saT⟩, nT1, nT2, nT3, ⟨mmT, miT, mfT, mkT⟩, PySem.W.mg_of X G aT⟩
  have GJ : CalN P w K mg base 1 "least_joined" (spJoin K) := ⟨g_least_joined, _, _, ok_join F37 tb.b, PySem.W.mg_of X G p37, k37, b37⟩
  have GRI := ok_rise (P := P) (w := w) (mg := mg) (base := base) F19 tU GG b9
  have GTi := ok_tinit (P := P) (w := w) (mg := mg) (base := base) F12 tY
  have GWA := ok_ways (P := P) (w := w) (mg := mg) (base := base) F16 tb.b tU tY ⟨m_fRi, i_fRi, k19⟩ GRI b19 GJ
  have GHE := ok_heights (P := P) (w := w) (mg := mg) (base := base) F17 tb.b tU tY ⟨m_fRi, i_fRi, k19⟩ GRI b19 GJ
  have GEX := ok_extend (P := P) (w := w) (mg := mg) (base := base) F18 tb.b tY
  have GAD := ok_add (P := P) (w := w) (mg := mg) (base := base) F13 tb.b tY ⟨m_fWa, i_fWa, k16⟩ GWA b16 ⟨m_fHe, i_fHe, k17⟩ GHE b17 ⟨m_fEx, i_fEx, k18⟩ GEX b18 GJ
  have GAK := ok_addK (P := P) (w := w) (mg := mg) (base := base) F14 tb.b tY ⟨m_fAd, i_fAd, k13⟩ GAD b13
  have GSU := ok_sure (P := P) (w := w) (mg := mg) (base := base) F15 tY ⟨m_fWa, i_fWa, k16⟩ GWA b16 ⟨m_fHe, i_fHe, k17⟩ GHE b17
  have GCk : CalX P w K mg base 3 "check_known" g_check_known _ ["known"] spCkK := ⟨ok_ckK F39 tb eI GI b0, PySem.W.mg_of X G p39, k39, b39⟩
  have GTd : CalX P w K mg base 8 "tied" g_tied _ ["sums", "known"] (spTied cT cM cS cC) := ⟨ok_tied F38 tb tY eC GI b0 GTi b12 ⟨m_fAk, i_fAk, k14⟩ GAK b14, PySem.W.mg_of X G p38, k38, b38⟩
  have GFW : CalX P w K mg base 8 "first_wrong" g_first_wrong _ ["book", "known"] (spFW cB cM cS cT) := ⟨ok_first_wrong F40 tb tV tY GRo GCk GBS b4 GTi b12 ⟨m_fAk, i_fAk, k14⟩ GAK b14, PySem.W.mg_of X G p40, k40, b40⟩
  have GSS : CalX P w K mg base 9 "sure_sums" g_sure_sums _ ["book", "known", "begin", "length"] (spSS cB cM cS cT cC) := ⟨ok_sure_sums F41 tb tV tY GRo GCk GBS b4 GTd GLe ⟨m_fSr, i_fSr, k15⟩ GSU b15, PySem.W.mg_of X G p41, k41, b41⟩
  have GWi : CalX P w K mg base 3 "check_width" g_check_width _ ["width"] (spWidth cL) := ⟨ok_width F44 eL GI b0, PySem.W.mg_of X G p44, k44, b44⟩
  have GSl : CalX P w K mg base 4 "strictest_least" g_strictest_least _ ["book", "width"] (spStr cB cW cL strL) := ⟨ok_sleast F42 tb GRo GWi GL GB b2, PySem.W.mg_of X G p42, k42, b42⟩
  have GSm : CalX P w K mg base 4 "strictest_most" g_strictest_most _ ["book", "width"] (spStr cB cW cL strM) := ⟨ok_smost F43 tb GRo GWi GH GB b2, PySem.W.mg_of X G p43, k43, b43⟩
  have GLS : CalN P w K mg base 1 "_law_shares" spShares := ⟨g_law_shares, _, _, ok_lshares F49 tb.b, PySem.W.mg_of X G p49, k49, b49⟩
  have GAM : CalN P w K mg base 1 "_law_amount" spAm := ⟨g_law_amount, _, _, ok_amount F50, PySem.W.mg_of X G p50, k50, b50⟩
  have GTO : CalN P w K mg base 2 "_law_ties_of" spTO := ⟨g_law_ties_of, _, _, ok_tiesof F51 tb.b GD GAM, PySem.W.mg_of X G p51, k51, b51⟩
  have GZ : CalG P w K mg base 10 "_law_right" spRight := ⟨g_law_right, _, _, ok_right F52 tb GD GK GM GN b1 GLS GTO GgS GlS GSh GSl GSm GFW GSS, PySem.W.mg_of X G p52, k52, b52⟩
  exact ok_law F53 tb.b GP GZ

end Ev

open PySem PySem.W PyProof.Rows
set_option maxRecDepth 100000 in
set_option maxHeartbeats 0 in
theorem PySem.Challenge.cw_everyspan_k32_whole_strictest_rules_and_holds : PySem.Challenge.rw_everyspan_k32_whole_strictest_rules_and.Holds := by
  w_on; o_law; k_head; (case hw => w_witness2)
  k_fill
  refine Ev.walk_ofG (l := PySem.Challenge.rw_everyspan_k32_whole_strictest_rules_and) (n := 63) (k := 11) (x := "script") (sp := Ev.spLaw) rfl (by decide) rfl ⟨rfl, by decide, by decide⟩ (fun w h Y => PySem.W.kIn_of Y) ?F ?hsp
  case hsp => exact fun K H a ns hl hS => ⟨a, ns, rfl, hS, hl, fun _ => rfl⟩
  case F =>
    intro w mg fa h KX G hmg
    refine' Ev.all_mk KX G hmg ?o_eD ?o_eR ?o_eW ?o_eL ?o_aB ?o_bm ?o_bi ?o_bf ?o_bk ?o_pg ?o_hd ?o_po ?o_sa ?o_n1 ?o_n2 ?o_n3 ?o_n4 ?o_n5 ?o_n6 ?o_m_fB ?o_i_fB ?o_m_fC ?o_i_fC ?o_m_fSu ?o_i_fSu ?o_aM ?o_mmM ?o_miM ?o_mfM ?o_mkM ?o_pgM ?o_hdM ?o_poM ?o_saM ?o_nM1 ?o_nM2 ?o_nM3 ?o_aS ?o_mmS ?o_miS ?o_mfS ?o_mkS ?o_pgS ?o_hdS ?o_poS ?o_saS ?o_nS1 ?o_nS2 ?o_nS3 ?o_nS4 ?o_nS5 ?o_nS6 ?o_nS7 ?o_m_fGr ?o_i_fGr ?o_m_fLe ?o_i_fLe ?o_m_fG ?o_i_fG ?o_m_fF ?o_i_fF ?o_m_fL ?o_i_fL ?o_h_heappush ?o_h_heappop ?o_h_gcd ?o_eC ?o_eI ?o_aT ?o_mmT ?o_miT ?o_mfT ?o_mkT ?o_pgT ?o_hdT ?o_poT ?o_saT ?o_nT1 ?o_nT2 ?o_nT3 ?o_m_fAd ?o_i_fAd ?o_m_fAk ?o_i_fAk ?o_m_fSr ?o_i_fSr ?o_m_fWa ?o_i_fWa ?o_m_fHe ?o_i_fHe ?o_m_fEx ?o_i_fEx ?o_m_fRi ?o_i_fRi ?o_l0 ?o_u0 ?o_k0 ?o_l1 ?o_u1 ?o_k1 ?o_l2 ?o_u2 ?o_k2 ?o_l3 ?o_u3 ?o_k3 ?o_l4 ?o_u4 ?o_k4 ?o_l5 ?o_u5 ?o_k5 ?o_l6 ?o_u6 ?o_k6 ?o_l7 ?o_u7 ?o_k7 ?o_l8 ?o_u8 ?o_k8 ?o_l9 ?o_u9 ?o_k9 ?o_l10 ?o_u10 ?o_k10 ?o_l11 ?o_u11 ?o_k11 ?o_l12 ?o_u12 ?o_k12 ?o_l13 ?o_u13 ?o_k13 ?o_l14 ?o_u14 ?o_k14 ?o_l15 ?o_u15 ?o_k15 ?o_l16 ?o_u16 ?o_k16 ?o_l17 ?o_u17 ?o_k17 ?o_l18 ?o_u18 ?o_k18 ?o_l19 ?o_u19 ?o_k19 ?o_p20 ?o_l20 ?o_u20 ?o_k20 ?o_p21 ?o_l21 ?o_u21 ?o_k21 ?o_p22 ?o_l22 ?o_u22 ?o_k22 ?o_p23 ?o_l23 ?o_u23 ?o_k23 ?o_p24 ?o_l24 ?o_u24 ?o_k24 ?o_p25 ?o_l25 ?o_u25 ?o_k25 ?o_p26 ?o_l26 ?o_u26 ?o_k26 ?o_p27 ?o_l27 ?o_u27 ?o_k27 ?o_p28 ?o_l28 ?o_u28 ?o_k28 ?o_p29 ?o_l29 ?o_u29 ?o_k29 ?o_p30 ?o_l30 ?o_u30 ?o_k30 ?o_p31 ?o_l31 ?o_u31 ?o_k31 ?o_p32 ?o_l32 ?o_u32 ?o_k32 ?o_p33 ?o_l33 ?o_u33 ?o_k33 ?o_p34 ?o_l34 ?o_u34 ?o_k34 ?o_p35 ?o_l35 ?o_u35 ?o_k35 ?o_p36 ?o_l36 ?o_u36 ?o_k36 ?o_p37 ?o_l37 ?o_u37 ?o_k37 ?o_p38 ?o_l38 ?o_u38 ?o_k38 ?o_p39 ?o_l39 ?o_u39 ?o_k39 ?o_p40 ?o_l40 ?o_u40 ?o_k40 ?o_p41 ?o_l41 ?o_u41 ?o_k41 ?o_p42 ?o_l42 ?o_u42 ?o_k42 ?o_p43 ?o_l43 ?o_u43 ?o_k43 ?o_p44 ?o_l44 ?o_u44 ?o_k44 ?o_p45 ?o_l45 ?o_u45 ?o_k45 ?o_p46 ?o_l46 ?o_u46 ?o_k46 ?o_p47 ?o_l47 ?o_u47 ?o_k47 ?o_p48 ?o_l48 ?o_u48 ?o_k48 ?o_p49 ?o_l49 ?o_u49 ?o_k49 ?o_p50 ?o_l50 ?o_u50 ?o_k50 ?o_p51 ?o_l51 ?o_u51 ?o_k51 ?o_p52 ?o_l52 ?o_u52 ?o_k52 ?o_p53 ?o_l53 ?o_u53 ?o_k53 ?o_z_int ?o_z_max ?o_z_min ?o_z_abs ?o_z_len ?o_z_repr ?o_z_isinstance ?o_z_range ?o_z_str ?o_z_list ?o_z_enumerate ?o_z_divmod ?o_z_zip ?o_z_ValueError ?o_z_reversed
    (case o_eD => refine' Ev.cls_mk KX G ?a ?xl ?rb ?sa ?ec ?ty ?kc ?i ?t ?ga ?gg ?hd ?ac ?sn ?tk ?mr ?vn; (case a => k_is); (case xl => k_is); (case rb => decide +kernel); (case sa => k_is); (case ec => k_is); (case ty => k_is); (case kc => k_is); (case i => k_is); (case t => k_is); (case ga => k_is); (case gg => k_is); (case hd => k_is); (case ac => k_is); (case sn => k_is); (case tk => k_is); (case mr => k_is); (case vn => k_is))
    (case o_eR => refine' Ev.cls_mk KX G ?a ?xl ?rb ?sa ?ec ?ty ?kc ?i ?t ?ga ?gg ?hd ?ac ?sn ?tk ?mr ?vn; (case a => k_is); (case xl => k_is); (case rb => decide +kernel); (case sa => k_is); (case ec => k_is); (case ty => k_is); (case kc => k_is); (case i => k_is); (case t => k_is); (case ga => k_is); (case gg => k_is); (case hd => k_is); (case ac => k_is); (case sn => k_is); (case tk => k_is); (case mr => k_is); (case vn => k_is))
    (case o_eW => refine' Ev.cls_mk KX G ?a ?xl ?rb ?sa ?ec ?ty ?kc ?i ?t ?ga ?gg ?hd ?ac ?sn ?tk ?mr ?vn; (case a => k_is); (case xl => k_is); (case rb => decide +kernel); (case sa => k_is); (case ec => k_is); (case ty => k_is); (case kc => k_is); (case i => k_is); (case t => k_is); (case ga => k_is); (case gg => k_is); (case hd => k_is); (case ac => k_is); (case sn => k_is); (case tk => k_is); (case mr => k_is); (case vn => k_is))
    (case o_eL => refine' Ev.cls_mk KX G ?a ?xl ?rb ?sa ?ec ?ty ?kc ?i ?t ?ga ?gg ?hd ?ac ?sn ?tk ?mr ?vn; (case a => k_is); (case xl => k_is); (case rb => decide +kernel); (case sa => k_is); (case ec => k_is); (case ty => k_is); (case kc => k_is); (case i => k_is); (case t => k_is); (case ga => k_is); (case gg => k_is); (case hd => k_is); (case ac => k_is); (case sn => k_is); (case tk => k_is); (case mr => k_is); (case vn => k_is))
    (case o_aB => k_is)
    (case o_bm => k_is)
    (case o_bi => k_is)
    (case o_bf => k_is)
    (case o_bk => k_is)
    (case o_pg => k_is)
    (case o_hd => k_is)
    (case o_po => k_is)
    (case o_sa => k_is)
    (case o_n1 => k_is)
    (case o_n2 => k_is)
    (case o_n3 => k_is)
    (case o_n4 => k_is)
    (case o_n5 => k_is)
    (case o_n6 => k_is)
    (case o_m_fB => k_is)
    (case o_i_fB => k_is)
    (case o_m_fC => k_is)
    (case o_i_fC => k_is)
    (case o_m_fSu => k_is)
    (case o_i_fSu => k_is)
    (case o_aM => k_is)
    (case o_mmM => k_is)
    (case o_miM => k_is)
    (case o_mfM => k_is)
    (case o_mkM => k_is)
    (case o_pgM => k_is)
    (case o_hdM => k_is)
    (case o_poM => k_is)
    (case o_saM => k_is)
    (case o_nM1 => k_is)
    (case o_nM2 => k_is)
    (case o_nM3 => k_is)
    (case o_aS => k_is)
    (case o_mmS => k_is)
    (case o_miS => k_is)
    (case o_mfS => k_is)
    (case o_mkS => k_is)
    (case o_pgS => k_is)
    (case o_hdS => k_is)
    (case o_poS => k_is)
    (case o_saS => k_is)
    (case o_nS1 => k_is)
    (case o_nS2 => k_is)
    (case o_nS3 => k_is)
    (case o_nS4 => k_is)
    (case o_nS5 => k_is)
    (case o_nS6 => k_is)
    (case o_nS7 => k_is)
    (case o_m_fGr => k_is)
    (case o_i_fGr => k_is)
    (case o_m_fLe => k_is)
    (case o_i_fLe => k_is)
    (case o_m_fG => k_is)
    (case o_i_fG => k_is)
    (case o_m_fF => k_is)
    (case o_i_fF => k_is)
    (case o_m_fL => k_is)
    (case o_i_fL => k_is)
    (case o_h_heappush => k_is)
    (case o_h_heappop => k_is)
    (case o_h_gcd => k_is)
    (case o_eC => refine' Ev.cls_mk KX G ?a ?xl ?rb ?sa ?ec ?ty ?kc ?i ?t ?ga ?gg ?hd ?ac ?sn ?tk ?mr ?vn; (case a => k_is); (case xl => k_is); (case rb => decide +kernel); (case sa => k_is); (case ec => k_is); (case ty => k_is); (case kc => k_is); (case i => k_is); (case t => k_is); (case ga => k_is); (case gg => k_is); (case hd => k_is); (case ac => k_is); (case sn => k_is); (case tk => k_is); (case mr => k_is); (case vn => k_is))
    (case o_eI => refine' Ev.cls_mk KX G ?a ?xl ?rb ?sa ?ec ?ty ?kc ?i ?t ?ga ?gg ?hd ?ac ?sn ?tk ?mr ?vn; (case a => k_is); (case xl => k_is); (case rb => decide +kernel); (case sa => k_is); (case ec => k_is); (case ty => k_is); (case kc => k_is); (case i => k_is); (case t => k_is); (case ga => k_is); (case gg => k_is); (case hd => k_is); (case ac => k_is); (case sn => k_is); (case tk => k_is); (case mr => k_is); (case vn => k_is))
    (case o_aT => k_is)
    (case o_mmT => k_is)
    (case o_miT => k_is)
    (case o_mfT => k_is)
    (case o_mkT => k_is)
    (case o_pgT => k_is)
    (case o_hdT => k_is)
    (case o_poT => k_is)
    (case o_saT => k_is)
    (case o_nT1 => k_is)
    (case o_nT2 => k_is)
    (case o_nT3 => k_is)
    (case o_m_fAd => k_is)
    (case o_i_fAd => k_is)
    (case o_m_fAk => k_is)
    (case o_i_fAk => k_is)
    (case o_m_fSr => k_is)
    (case o_i_fSr => k_is)
    (case o_m_fWa => k_is)
    (case o_i_fWa => k_is)
    (case o_m_fHe => k_is)
    (case o_i_fHe => k_is)
    (case o_m_fEx => k_is)
    (case o_i_fEx => k_is)
    (case o_m_fRi => k_is)
    (case o_i_fRi => k_is)
    (case o_l0 => k_is)
    (case o_u0 => k_is)
    (case o_k0 => k_is)
    (case o_l1 => k_is)
    (case o_u1 => k_is)
    (case o_k1 => k_is)
    (case o_l2 => k_is)
    (case o_u2 => k_is)
    (case o_k2 => k_is)
    (case o_l3 => k_is)
    (case o_u3 => k_is)
    (case o_k3 => k_is)
    (case o_l4 => k_is)
    (case o_u4 => k_is)
    (case o_k4 => k_is)
    (case o_l5 => k_is)
    (case o_u5 => k_is)
    (case o_k5 => k_is)
    (case o_l6 => k_is)
    (case o_u6 => k_is)
    (case o_k6 => k_is)
    (case o_l7 => k_is)
    (case o_u7 => k_is)
    (case o_k7 => k_is)
    (case o_l8 => k_is)
    (case o_u8 => k_is)
    (case o_k8 => k_is)
    (case o_l9 => k_is)
    (case o_u9 => k_is)
    (case o_k9 => k_is)
    (case o_l10 => k_is)
    (case o_u10 => k_is)
    (case o_k10 => k_is)
    (case o_l11 => k_is)
    (case o_u11 => k_is)
    (case o_k11 => k_is)
    (case o_l12 => k_is)
    (case o_u12 => k_is)
    (case o_k12 => k_is)
    (case o_l13 => k_is)
    (case o_u13 => k_is)
    (case o_k13 => k_is)
    (case o_l14 => k_is)
    (case o_u14 => k_is)
    (case o_k14 => k_is)
    (case o_l15 => k_is)
    (case o_u15 => k_is)
    (case o_k15 => k_is)
    (case o_l16 => k_is)
    (case o_u16 => k_is)
    (case o_k16 => k_is)
    (case o_l17 => k_is)
    (case o_u17 => k_is)
    (case o_k17 => k_is)
    (case o_l18 => k_is)
    (case o_u18 => k_is)
    (case o_k18 => k_is)
    (case o_l19 => k_is)
    (case o_u19 => k_is)
    (case o_k19 => k_is)
    (case o_p20 => k_is)
    (case o_l20 => k_is)
    (case o_u20 => k_is)
    (case o_k20 => k_is)
    (case o_p21 => k_is)
    (case o_l21 => k_is)
    (case o_u21 => k_is)
    (case o_k21 => k_is)
    (case o_p22 => k_is)
    (case o_l22 => k_is)
    (case o_u22 => k_is)
    (case o_k22 => k_is)
    (case o_p23 => k_is)
    (case o_l23 => k_is)
    (case o_u23 => k_is)
    (case o_k23 => k_is)
    (case o_p24 => k_is)
    (case o_l24 => k_is)
    (case o_u24 => k_is)
    (case o_k24 => k_is)
    (case o_p25 => k_is)
    (case o_l25 => k_is)
    (case o_u25 => k_is)
    (case o_k25 => k_is)
    (case o_p26 => k_is)
    (case o_l26 => k_is)
    (case o_u26 => k_is)
    (case o_k26 => k_is)
    (case o_p27 => k_is)
    (case o_l27 => k_is)
    (case o_u27 => k_is)
    (case o_k27 => k_is)
    (case o_p28 => k_is)
    (case o_l28 => k_is)
    (case o_u28 => k_is)
    (case o_k28 => k_is)
    (case o_p29 => k_is)
    (case o_l29 => k_is)
    (case o_u29 => k_is)
    (case o_k29 => k_is)
    (case o_p30 => k_is)
    (case o_l30 => k_is)
    (case o_u30 => k_is)
    (case o_k30 => k_is)
    (case o_p31 => k_is)
    (case o_l31 => k_is)
    (case o_u31 => k_is)
    (case o_k31 => k_is)
    (case o_p32 => k_is)
    (case o_l32 => k_is)
    (case o_u32 => k_is)
    (case o_k32 => k_is)
    (case o_p33 => k_is)
    (case o_l33 => k_is)
    (case o_u33 => k_is)
    (case o_k33 => k_is)
    (case o_p34 => k_is)
    (case o_l34 => k_is)
    (case o_u34 => k_is)
    (case o_k34 => k_is)
    (case o_p35 => k_is)
    (case o_l35 => k_is)
    (case o_u35 => k_is)
    (case o_k35 => k_is)
    (case o_p36 => k_is)
    (case o_l36 => k_is)
    (case o_u36 => k_is)
    (case o_k36 => k_is)
    (case o_p37 => k_is)
    (case o_l37 => k_is)
    (case o_u37 => k_is)
    (case o_k37 => k_is)
    (case o_p38 => k_is)
    (case o_l38 => k_is)
    (case o_u38 => k_is)
    (case o_k38 => k_is)
    (case o_p39 => k_is)
    (case o_l39 => k_is)
    (case o_u39 => k_is)
    (case o_k39 => k_is)
    (case o_p40 => k_is)
    (case o_l40 => k_is)
    (case o_u40 => k_is)
    (case o_k40 => k_is)
    (case o_p41 => k_is)
    (case o_l41 => k_is)
    (case o_u41 => k_is)
    (case o_k41 => k_is)
    (case o_p42 => k_is)
    (case o_l42 => k_is)
    (case o_u42 => k_is)
    (case o_k42 => k_is)
    (case o_p43 => k_is)
    (case o_l43 => k_is)
    (case o_u43 => k_is)
    (case o_k43 => k_is)
    (case o_p44 => k_is)
    (case o_l44 => k_is)
    (case o_u44 => k_is)
    (case o_k44 => k_is)
    (case o_p45 => k_is)
    (case o_l45 => k_is)
    (case o_u45 => k_is)
    (case o_k45 => k_is)
    (case o_p46 => k_is)
    (case o_l46 => k_is)
    (case o_u46 => k_is)
    (case o_k46 => k_is)
    (case o_p47 => k_is)
    (case o_l47 => k_is)
    (case o_u47 => k_is)
    (case o_k47 => k_is)
    (case o_p48 => k_is)
    (case o_l48 => k_is)
    (case o_u48 => k_is)
    (case o_k48 => k_is)
    (case o_p49 => k_is)
    (case o_l49 => k_is)
    (case o_u49 => k_is)
    (case o_k49 => k_is)
    (case o_p50 => k_is)
    (case o_l50 => k_is)
    (case o_u50 => k_is)
    (case o_k50 => k_is)
    (case o_p51 => k_is)
    (case o_l51 => k_is)
    (case o_u51 => k_is)
    (case o_k51 => k_is)
    (case o_p52 => k_is)
    (case o_l52 => k_is)
    (case o_u52 => k_is)
    (case o_k52 => k_is)
    (case o_p53 => k_is)
    (case o_l53 => k_is)
    (case o_u53 => k_is)
    (case o_k53 => k_is)
    (case o_z_int => k_is)
    (case o_z_max => k_is)
    (case o_z_min => k_is)
    (case o_z_abs => k_is)
    (case o_z_len => k_is)
    (case o_z_repr => k_is)
    (case o_z_isinstance => k_is)
    (case o_z_range => k_is)
    (case o_z_str => k_is)
    (case o_z_list => k_is)
    (case o_z_enumerate => k_is)
    (case o_z_divmod => k_is)
    (case o_z_zip => k_is)
    (case o_z_ValueError => k_is)
    (case o_z_reversed => k_is)
