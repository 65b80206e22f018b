import PyProof.Rows.All
import Wide.All
import OpenK.AllK
import Wide.FinOn
import HandS.ForMost
import HandS.Evl
import HandS.IsInst
import HandS.Strs
import HandS.TupMul
import HandS.TupAny
import HandS.MakeKwOnly
import PyProof.ReprRoads
import KE.GoesZip
import KE.GoesMore
import KE.GoesEnum
import KE.KStar
import HandS.Zip
import HandS.IntHex
import HandS.Conv
import PyProof.StrLawsRepr
import PySem.Challenge.RW_threevalues_k03_whole_tables_put_togethe
set_option Elab.async false
set_option linter.all false
set_option maxRecDepth 100000
set_option maxHeartbeats 4000000
namespace Tv
open PySem PySem.Spec PyProof.Rows L2

/-! ### promises of defs, the repr guards told -/
structure FnG (P : Program) (w : World) (K : PySem.W.Frag) (mg : Str → Option Value)
    (base : Heap) (lev : Nat) (f : Addr) (fd : FuncData) (ps : List Str) (sp : Sp) : Prop where
  len : ∀ vs H Q E, sp vs H Q E → vs.length = ps.length
  run : ∀ (A : Around) (fr : List Env) (s : Shared) (H : Hp) (ar : Args) (us : List Value) (vs : List V)
    (Q : VK) (E : XK), Room lev A → A.guards = some [] → Env0 P w K mg base A fr s H →
    BindsTo s fd ar (ps.zip us) → Vals vs us → sp vs H Q E →
    codeAny (model P w) A (.call (.ref f) ar) (CR CX0 fr P w H s Q E) s

section
variable {P : Program} {w : World} {K : PySem.W.Frag} {mg : Str → Option Value} {base : Heap}

theorem FnG.of {lev : Nat} {f : Addr} {fd : FuncData} {ps : List Str} {sp : Sp}
    (F : FnOk P w K mg base CX0 lev f fd ps sp) : FnG P w K mg base lev f fd ps sp :=
  ⟨F.len, fun A fr s H ar us vs Q E r _ e b v z => F.run A fr s H ar us vs Q E r e b v z⟩

/-- a def of the text by its body's reading, the guards known in it -/
theorem fnG {qn name : Str} {st : Stmt} {f : Addr} {fd : FuncData} {N ps : List Str} {lev : Nat} {sp : Sp}
    (F : Fun K name qn st f fd) (S : FnScope N ps (defScope st))
    (len : ∀ vs H Q E, sp vs H Q E → vs.length = ps.length)
    (body : ∀ (cdv : Value) (A : Around) (fr : List Env) (s : Shared) (H : Hp) (vs : List V) (Q : VK) (E : XK),
      Room lev (A.deeper (envOfC qn (defScope st) s.heap.objs.size f cdv)) → A.guards = some [] →
      sp vs H Q E →
      ∃ t, PSs (cxOf CX0 P w K mg base N qn (defScope st) f cdv A fr s H E).nox (defBody st) t ∧
        t { nx := fun _ H' => Q .non H', rt := Q } (start N vs) H) :
    FnG P w K mg base (lev + 1) f fd ps sp := by
  obtain ⟨oc, od, kV, doc, pm, an, cdv, ct, osl, rfl, look, code⟩ := F.ex
  refine ⟨len, fun A fr s H ar us vs Q E room gd env bnd rel hsp => ?_⟩
  have many := len _ _ _ _ hsp
  have inK : K.In s.heap := env.mod.kin.keeps fun b o e => (env.bs b o e).1
  have nol : s.heap.NoLimit := env.mod.nolimit.keeps fun b o e => (env.bs b o e).1
  have kinds : ∀ y ∈ ps.zip us, (defScope st).names.lookup y.1 = some .local ∨
      ((defScope st).names.lookup y.1 = some .cell ∧
        ((cellsFrom (s.heap.objs.size + 1) (defScope st).names []).lookup y.1).isSome = true) := by
    rintro ⟨n, v⟩ hy
    rcases S.par n (List.of_mem_zip hy).1 with q | q
    · exact Or.inl q
    · exact Or.inr ⟨q, PySem.W.cellsFrom_some _ _ _ (Or.inl q)⟩
  refine codeAny_call_function room.depth
    (inK _ _ look) rfl S.co S.gen rfl (PySem.W.codeRec_of inK code) (bnd _ _ _ _ ?_)
  refine wpAny_newFunctionEnv_cells S.kind kinds
    fun en same s1 x => ?_
  subst same
  refine ⟨nol.keeps x.toInCall.keep, codeAny_func ?_⟩
  obtain ⟨t, der, rd⟩ := body cdv A fr s H vs Q E (room.deeper _) gd hsp
  have J := inv_start (CX := CX0) (P := P) (w := w) (K := K) (mg := mg) (base := base) (N := N) (E := E)
    S room.hd env many rel x
  refine wpAny_mono (der.nox.run [] s1 (start N vs) H _ J rd)
    (fun fl s' hs => ?_) fun e s' hs => hs
  cases fl with
  | ret u =>
    obtain ⟨v, σ', H', I', rv, q⟩ := hs
    exact ⟨v, H', I'.os, I'.bare, I'.base, I'.hok, rv, q⟩
  | next =>
    obtain ⟨σ', H', I', q⟩ := hs
    exact ⟨V.non, H', I'.os, I'.bare, I'.base, I'.hok, rfl, q⟩
  | brk =>
    obtain ⟨_, _, _, q⟩ := hs
    exact q.elim
  | cont =>
    obtain ⟨_, _, _, q⟩ := hs
    exact q.elim

/-- a def as the callers use it: what its name holds, how it binds, its promise -/
structure DefG (P : Program) (w : World) (K : PySem.W.Frag) (mg : Str → Option Value) (base : Heap)
    (x : Str) (ps : List Str) (lev : Nat) (sp : Sp) : Prop where
  ex : ∃ (f : Addr) (fd : FuncData), mg x = some (.ref f) ∧ PySem.W.keepIn K (.ref f) = true ∧
    Binds K fd ps [] ∧ FnG P w K mg base lev f fd ps sp ∧
    (∀ (s : Shared) (ws : List Value), ws.length = ps.length → K.In s.heap →
      BindsTo s fd ⟨[], ps.reverse.zip ws⟩ (ps.zip ws.reverse))
theorem DefG.mono {x : Str} {ps : List Str} {a b : Nat} {sp : Sp} (D : DefG P w K mg base x ps a sp)
    (h : a ≤ b) : DefG P w K mg base x ps b sp := by
  obtain ⟨f, fd, h1, h2, h3, F, h5⟩ := D.ex
  exact ⟨f, fd, h1, h2, h3, ⟨F.len, fun A fr s H ar us vs Q E r => F.run A fr s H ar us vs Q E (r.mono h)⟩, h5⟩
end

section
variable {X : Cx} {lev : Nat} {ps : List Str} {sp : Sp} {x : Str} {p pos : Pos}
  {e : Expr} {es : List Expr} {t tk : TA} {kws : List Keyword}

theorem run_G {pins : List (Addr × Obj)} {σ : L2.St} {H : Hp} {s : Shared} {Q : VK} {us ws : List Value} {kw : List (Str × Value)}
    {vs : List V} {f : Addr} {fd : FuncData} (F : FnG X.prog X.w X.K X.mg X.base lev f fd ps sp)
    (hr : Room lev X.A) (hg : X.A.guards = some []) (I : Inv X pins σ H s) (hb : BindsTo s fd ⟨ws, kw⟩ (ps.zip us))
    (r : Vals vs us) (h : sp vs H Q E0) :
    wpAny (model X.prog X.w) X.A (call (.ref f) ws kw) (EP X pins σ Q) X.xe s := by
  refine wpAny_call (codeAny_mono (F.run X.A X.stack s H _ us vs Q E0 hr hg I.env0 hb r h) fun res s' got => ?_)
  cases res with
  | error e => exact got.elim
  | ok fl =>
    cases fl with
    | ret u => exact I.after got
    | next => exact got.elim
    | brk => exact got.elim
    | cont => exact got.elim

def tDef (sp : Sp) (t : TA) : TE := fun σ H Q => t σ H fun vs H1 => sp vs H1 Q E0
def tDefK (sp : Sp) (t : TA) : TE := fun σ H Q => t σ H fun zs H1 => sp zs.reverse H1 Q E0
/-- f(e, ..) -/
theorem pe_def (D : DefG X.prog X.w X.K X.mg X.base x ps lev sp) (hr : Room lev X.A)
    (hg : X.A.guards = some []) (hx : Gl X x := by rfl) (ha : PA X (e :: es) t)
    (hdb : (x == ("__debug__" : Str)) = false := by decide)
    (he : starEach (e :: es) X.env = (false, eval e X.env) :: starEach es X.env := by rfl)
    (hpl : (backTo pos (starEach es X.env)).any (·.1) = false := by rfl) :
    PE X (.Call (.Name x p) (e :: es) [] pos) (tDef sp t) := by
  obtain ⟨f, fd, hm, hk, hb, F, _⟩ := D.ex
  refine ⟨fun pins s σ H Q I h => ?_⟩
  refine wpAny_Call_Name_kw (ld_glob I hx hm ?_ hdb)
  refine PySem.W.callWith_K (h₀ := X.base) I.ok.mod.kin hk
    (thn (ha.run pos pins s σ H _ I h) fun us s1 ⟨vs, H1, J, r, q⟩ => ⟨J.kIn, ?_⟩) he hpl
  have many : us.length = ps.length := by rw [← r.length]; exact F.len _ _ _ _ q
  have bt := hb s1 us J.kIn (by rw [List.append_nil]; exact many)
  rw [List.append_nil] at bt
  exact run_G F hr hg J bt r q
/-- f() -/
theorem pe_def0 (D : DefG X.prog X.w X.K X.mg X.base x ps lev sp) (hr : Room lev X.A)
    (hg : X.A.guards = some []) (hx : Gl X x := by rfl)
    (hdb : (x == ("__debug__" : Str)) = false := by decide) :
    PE X (.Call (.Name x p) [] [] pos) (tDef sp tNil) := by
  obtain ⟨f, fd, hm, hk, hb, F, _⟩ := D.ex
  refine ⟨fun pins s σ H Q I h => ?_⟩
  refine wpAny_Call_Name_kw (ld_glob I hx hm ?_ hdb)
  refine PySem.W.callWith_K0 I.kIn hk ?_
  have many : ([] : List Value).length = ps.length := F.len _ _ _ _ h
  have bt := hb s [] I.kIn (by rw [List.append_nil]; exact many)
  rw [List.append_nil] at bt
  exact run_G (us := []) F hr hg I bt .nil h
theorem vals_rev : ∀ {vs : List V} {us : List Value}, Vals vs us → Vals vs.reverse us.reverse
  | _, _, .nil => .nil
  | _, _, .cons r t => by
    rw [List.reverse_cons, List.reverse_cons]
    exact (vals_rev t).append (.cons r .nil)
/-- f(b = .., a = ..): all by name, the last parameter first -/
theorem pe_defK (D : DefG X.prog X.w X.K X.mg X.base x ps lev sp) (hr : Room lev X.A)
    (hg : X.A.guards = some []) (hx : Gl X x := by rfl) (hkw : PK X kws tk)
    (hall : (backToKw pos (keywordEach kws X.env)).all (·.1.isSome) = true := by rfl)
    (hks : (backToKw pos (keywordEach kws X.env)).filterMap (·.1) = ps.reverse := by rfl)
    (hdb : (x == ("__debug__" : Str)) = false := by decide)
    (hpl : ((backTo pos (starEach [] X.env)).any (·.1) || (backToKw pos (keywordEach kws X.env)).any (·.1.isNone)) = false := by rfl) :
    PE X (.Call (.Name x p) [] kws pos) (tDefK sp tk) := by
  obtain ⟨f, fd, hm, hk, _, F, hkb⟩ := D.ex
  refine ⟨fun pins s σ H Q I h => ?_⟩
  refine wpAny_Call_Name_kw (ld_glob I hx hm ?_ hdb)
  refine PySem.W.callWith_KW0 (h₀ := X.base) I.ok.mod.kin hk hall ?_ hpl
  refine thn (hkw.run pos pins s σ H _ I h) fun ws s2 ⟨zs, H2, J, rz, q⟩ => ⟨J.kIn, ?_⟩
  rw [hks]
  have many : ws.length = ps.length := by
    rw [← rz.length, ← List.length_reverse]; exact F.len _ _ _ _ q
  have bt := hkb s2 ws many J.kIn
  exact run_G F hr hg J bt (vals_rev rz) q
end

/-! ### repr of a list or a tuple of data -/
def rRepr (K : PySem.W.Frag) : List V → Hp → VK → Prop := fun xs H Q => ∃ (a : Addr) (d : PyData), xs = [.ref a] ∧
  Dp K H (.ref a) d ∧ d.showable = true ∧ d.hasDict = false ∧ d.depth ≤ 20 ∧ d.shown.length ≤ sizeLine ∧ Q (.str d.shown) H
theorem cr_repr {X : Cx} {lev : Nat} (hr : Room lev X.A) (hg : X.A.guards = some []) : CallR X (.builtin "repr") (rRepr X.K) := by
  intro pins s σ H xs us Q I r h
  obtain ⟨a, d, rfl, dp, hs, hd, hdep, hz, q⟩ := h
  obtain ⟨u, rfl, rv⟩ := vals1 r
  obtain ⟨as, rd⟩ := Dp.reads I d _ u dp rv
  have hu := hr.units
  cases rv
  exact repr_of_reads' rd hs (fun z => by rw [hd] at z; cases z) hg (by omega) (fun _ _ e => e)
    (fun h' u tk k => ⟨.str _, H, I.kept k, ⟨_, rfl⟩, q⟩) hz
/-- the built-in names that the text uses -/
structure Blt (mg : Str → Option Value) : Prop where
  m_len : mg "len" = none
  m_isinstance : mg "isinstance" = none
  m_all : mg "all" = none
  m_any : mg "any" = none
  m_abs : mg "abs" = none
  m_divmod : mg "divmod" = none
  m_repr : mg "repr" = none
  m_range : mg "range" = none
  m_max : mg "max" = none
  m_min : mg "min" = none
  m_int : mg "int" = none
  m_str : mg "str" = none
  m_bool : mg "bool" = none
  m_tuple : mg "tuple" = none
  m_set : mg "set" = none
end Tv

namespace Tv
open PySem PySem.Spec PyProof.Rows L2

/-! ### set(text): its members and how many -/
/-- the distinct ones among some, in the order met -/
def dist : List Str → List Str
  | [] => []
  | x :: r => if (dist r).any (· == x) then dist r else x :: dist r
theorem dist_any (z : Str) : ∀ l : List Str, (dist l).any (· == z) = l.any (· == z)
  | [] => rfl
  | x :: r => by
    have ih := dist_any z r
    unfold dist
    by_cases h : (dist r).any (· == x) = true
    · rw [if_pos h, List.any_cons, ih]
      by_cases e : x = z
      · subst e
        rw [dist_any x r] at h
        rw [h, Bool.or_true]
      · have q : (x == z) = false := beq_eq_false_iff_ne.mpr e
        rw [q, Bool.false_or]
    · rw [if_neg h, List.any_cons, List.any_cons, ih]
theorem dist_le : ∀ l : List Str, (dist l).length ≤ l.length
  | [] => Nat.le_refl _
  | x :: r => by
    have ih := dist_le r
    unfold dist
    split
    · exact Nat.le_succ_of_le ih
    · exact Nat.succ_le_succ ih
/-- the signs of a text ahead of the i-th, the last one first -/
def seen (x : Str) (i : Nat) : List Str := ((x.cps.toList.take i).map fun c => (⟨#[c]⟩ : Str)).reverse
theorem seen_zero (x : Str) : seen x 0 = [] := rfl
theorem seen_succ {x : Str} {i c : Nat} (h : x.cps[i]? = some c) : seen x (i + 1) = ⟨#[c]⟩ :: seen x i := by
  unfold seen
  have h' : x.cps.toList[i]? = some c := by rw [Array.getElem?_toList]; exact h
  rw [List.take_succ, h']
  simp
theorem seen_len (x : Str) (i : Nat) : (seen x i).length ≤ i := by
  unfold seen
  simp
  omega

abbrev rawSet (led : Bool) : Obj := { cls := .type "set", dict := none, data := .set #[] 0 (.fresh 0 0 led) }
abbrev TextSet (P : Program) (w : World) (h : Heap) (a : Addr) (l : List Str) : Prop :=
  h.SetOf (PySem.strKind P w) a (fun z => (dist l).any (· == z)) (dist l).length

section
variable {P : Program} {w : World} {A : Around} {R : Result → Shared → Prop} {it : Addr}
  {G : Array GenState → Array GenState → Prop} {St : Nat → Shared → Prop} {x : Str}
theorem set_loop (W : WalksS P w A.in1 it [it] [it] G x.cps.size (SignAt x) St) (a : Addr) (ne : a ≠ it)
    (small : x.cps.size ≤ 1000) : ∀ (m i : Nat) (s : Shared), x.cps.size - i = m → i ≤ x.cps.size → St i s →
    TextSet P w s.heap a (seen x i) →
    (∀ s', Moved [a, it] G s s' → TextSet P w s'.heap a (seen x x.cps.size) → R (.ok (.ret .none)) s') →
    codeAny (model P w) A (.builtin "set.update.loop" ⟨[.ref a, .ref it], []⟩) R s := by
  have one : ∀ b ∈ [it], b ∈ [a, it] := fun b hb => List.mem_cons_of_mem _ hb
  have off : a ∉ [it] := fun z => ne (List.mem_singleton.mp z)
  have still : ∀ {s s' : Shared} {l : List Str}, Moved [it] G s s' → TextSet P w s.heap a l → TextSet P w s'.heap a l := by
    rintro s s' l mv ⟨o, es, ep, tb, ho, more⟩
    exact ⟨o, es, ep, tb, mv.heap a _ off ho, more⟩
  intro m
  induction m with
  | zero =>
    intro i s hm hi st S k
    obtain rfl : i = x.cps.size := by omega
    refine codeAny_builtin F.entry_set_update_loop ?_
    rw [Around.under_plainId F.plain_set_update_loop _]
    refine wpAny_bind (m := pyNext (.ref it)) (W.done s _ _ st fun s' mv => ?_)
    exact wpAny_pure (k s' (mv.mono one) (still mv S))
  | succ m ih =>
    intro i s hm hi st S k
    have lt : i < x.cps.size := by omega
    refine codeAny_builtin F.entry_set_update_loop ?_
    rw [Around.under_plainId F.plain_set_update_loop _]
    refine wpAny_bind (m := pyNext (.ref it)) (W.item i s _ _ lt st fun v s' hv st' mv => ?_)
    obtain ⟨c, t, hc, rfl⟩ := hv
    have S' := still mv S
    refine wpAny_bind (m := holding [Value.str ⟨#[c]⟩ t] (setAdd a (.str ⟨#[c]⟩ t))) (wpAny_holding ?_)
    unfold setAdd
    refine wpAny_holding (wpAny_bind ((PySem.strKind P w).pyHash (k := ⟨#[c]⟩) (strKind_is _ _ _ _) ?_))
    have few : (dist (seen x i)).length + 1 < scanBound := by
      have a1 := dist_le (seen x i)
      have a2 := seen_len x i
      unfold scanBound
      omega
    refine wpAny_setAddHashed_of (knd := PySem.strKind P w) (s := { s' with toks := s'.toks + 1 })
      (strKind_is _ _ _ _) rfl S' few fun h' sb S2 => ?_
    have S3 : TextSet P w h' a (seen x (i + 1)) := by
      rw [seen_succ hc]
      refine SetOf_congr S2 (fun z => ?_) ?_
      · show ((dist (seen x i)).any (· == z) || decide (z = ⟨#[c]⟩)) = (dist (⟨#[c]⟩ :: seen x i)).any (· == z)
        rw [dist_any, dist_any, List.any_cons, Bool.or_comm]
        by_cases e : z = ⟨#[c]⟩
        · subst e; simp
        · have q : ((⟨#[c]⟩ : Str) == z) = false := beq_eq_false_iff_ne.mpr fun y => e y.symm
          rw [q, decide_eq_false e]
      · show (if (dist (seen x i)).any (· == ⟨#[c]⟩) = true then _ else _) = _
        show _ = (if (dist (seen x i)).any (· == ⟨#[c]⟩) = true then dist (seen x i) else ⟨#[c]⟩ :: dist (seen x i)).length
        split <;> rfl
    refine wpAny_pure ⟨plainId_quiet F.plain_set_update_loop _, ih (i + 1) _ (by omega) lt
      (W.frame _ s' _ _ st' (Nat.le_succ _) fun b hb o e => ?_) S3 fun s2 mv2 S4 => ?_⟩
    · rw [sb.2 b (fun z : b = a => off (z ▸ hb))]; exact e
    · refine k s2 (Moved.trans W.gtrans ((mv.mono one).then_heap (Nat.le_succ _) fun b o hb e => ?_) mv2) S4
      rw [sb.2 b (fun z : b = a => hb (by rw [z]; exact List.mem_cons_self))]; exact e
end

section
variable {P : Program} {w : World} {A : Around} {E : Value → Shared → Prop} {s : Shared}
theorem call_set_text {x : Str} {t : Tok} {Q : Value → Shared → Prop} (hh : A.handled = none) (small : x.cps.size ≤ 1000)
    (h : ∀ (h' : Heap) (tk : Nat), TextSet P w h' s.heap.objs.size (seen x x.cps.size) →
      (∀ b o, b < s.heap.objs.size → s.heap.get? b = some o → h'.get? b = some o) →
      Q (.ref s.heap.objs.size) { s with heap := h', toks := tk }) :
    wpAny (model P w) A (call (.type "set") [.str x t]) Q E s := by
  obtain ⟨c, tl, hmro⟩ := PySem.F.called_set.mro
  have made := PySem.F.called_set.made
  have sub := PySem.F.called_set.sub
  refine wpAny_call (codeAny_of_tree ?_)
  show wpAny _ _ (callAny (.type "set") _) _ _ _
  refine wpAny_pure ⟨Code.quiet_builtin _ (by decide +kernel),
    codeAny_builtin PySem.F.entry_type_call ?_⟩
  rw [Around.under_plain (weight_type_call_type "set" [.str x t] []) rfl]
  have n1 := PySem.F.called_set.notType
  have n2 := PySem.F.called_set.canCreate
  have tc := PySem.F.typeCall_set_1 (.str x t)
  repeat (any_goals (first | assumption | wp_step))
  refine codeAny_mono (code_set_new_1 (.str x t) (E := E) (Q₁ := fun obj s₁ => ∃ led : Bool,
    obj = .ref s.heap.objs.size ∧ s₁ = { s with heap := s.heap.push (rawSet led) }) fun led => ⟨led, rfl, rfl⟩) fun r s₁ got => ?_
  cases r with
  | error e => exact got
  | ok fl =>
    cases fl with
    | ret obj =>
      obtain ⟨led, rfl, rfl⟩ := got
      have at0 : (s.heap.push (rawSet led)).get? s.heap.objs.size = some (rawSet led) := Heap.get?_push_size _ rfl
      have ty : Shared.TypeIs { s with heap := s.heap.push (rawSet led) } (.ref s.heap.objs.size) "set" := ⟨_, at0, rfl⟩
      have l1 := PySem.F.called_set.init.lookup
      have l2 := PySem.F.called_set.init.bind (.ref s.heap.objs.size)
      repeat (any_goals (first | assumption | wp_step))
      refine codeAny_mono (codeAny_call_builtin (R := wants (fun r s₂ => r = .none ∧ ∃ h' tk,
          s₂ = { s with heap := h', toks := tk } ∧ TextSet P w h' s.heap.objs.size (seen x x.cps.size) ∧
          (∀ b o, b < s.heap.objs.size → s.heap.get? b = some o → h'.get? b = some o)) E)
        PySem.F.called_set.init.plain PySem.F.entry_set_init (check_set_init_1 ty ?_)) fun r₂ s₂ got₂ => ?_
      · have u1 : (Value.type "str" == Value.type "dict") = false := by decide
        have u2 := PySem.F.sub_str_set
        have u3 := PySem.F.sub_str_frozenset
        unfold Builtin.«set.__init__» noKeywords Builtin.Frozenset.updateFrom
        generalize hPI : pyIter = PI
        wp_walk
        subst hPI
        refine wpAny_pyIter_str (s := { s with heap := s.heap.push (rawSet led) }) fun o St walks st0 => ?_
        refine wpAny_bind (wpAny_runValue ?_)
        have h3 : A.in1.in1.in1.handled = none := by simp [hh]
        have ne : s.heap.objs.size ≠ (s.heap.push (rawSet led)).objs.size := by
          rw [Heap.size_push]; exact Nat.ne_of_lt (Nat.lt_succ_self _)
        refine set_loop ((walks _ h3).toS) s.heap.objs.size ne small (x.cps.size - 0) 0 _ (by omega) (Nat.zero_le _) st0 ?S0 ?R0
        case S0 =>
          have g0 : ((s.heap.push (rawSet led)).push o).get? s.heap.objs.size = some (rawSet led) := Heap.get?_push_of_some _ at0
          exact SetOf_congr ((setObjOf_fresh (knd := PySem.strKind P w) led).setOf g0 (by unfold scanBound; omega)) (fun _ => rfl) rfl
        case R0 =>
          intro s' mv S'
          obtain ⟨h', g', d', tk', os'⟩ := s'
          have e1 : g' = s.gens := mv.gens
          have e2 : d' = s.drawn := mv.drawn
          have e3 : os' = s.os := mv.os
          subst e1 e2 e3
          refine wpAny_pure ?_
          refine wpAny_pure (a := Fin.done (.ret Value.none)) ⟨rfl, h', tk', rfl, S', fun b o' hb e => ?_⟩
          refine mv.heap b o' (fun z => ?_) (Heap.get?_push_of_some _ (Heap.get?_push_of_some _ e))
          rcases List.mem_cons.mp z with z | z
          · exact Nat.ne_of_lt hb z
          · have z' := List.mem_singleton.mp z
            have z2 : (s.heap.push (rawSet led)).objs.size = s.heap.objs.size + 1 := Heap.size_push ..
            rw [z2] at z'
            exact Nat.ne_of_lt (Nat.lt_succ_of_lt hb) z'
      · cases r₂ with
        | error e => exact got₂
        | ok fl₂ =>
          cases fl₂ with
          | ret r =>
            obtain ⟨rfl, h', tk, rfl, S', k'⟩ := got₂
            repeat (any_goals (first | assumption | wp_step))
            exact h _ _ S' k'
          | _ => exact got₂.elim
    | _ => exact got.elim
end

/-! ### len(set(e)), e a text -/
def tLenSetS (te : TE) : TE := fun σ H Q => te σ H fun v H1 => ∃ x : Str, v = .str x ∧ x.cps.size ≤ 1000 ∧
  Q (.int (dist (seen x x.cps.size)).length) H1
theorem pe_lenSetS {X : Cx} {a : Expr} {te : TE} {p p2 q pos : Pos} (hc : X.calm = true) (hg : Gl X "len") (hm : X.mg "len" = none)
    (hg2 : Gl X "set") (hm2 : X.mg "set" = none) (ha : PE X a te)
    (na : starEach [a] X.env = (false, eval a X.env) :: starEach [] X.env := by rfl) :
    PE X (.Call (.Name "len" p) [.Call (.Name "set" p2) [a] [] q] [] pos) (tLenSetS te) := by
  refine ⟨fun pins s σ H Q I h => Call_ (ld_blt I hg hm boot_len ?_)⟩
  refine callWith_builtin1 (args_cons (Call_ (ld_blt I hg2 hm2 boot_set ?_)) rfl) rfl rfl
  refine callWith_type1 (args_cons (thn (ha.run pins s σ H _ I h) fun v s1 ⟨x, H1, J, r1, q1⟩ => args_nil ?_) na) na rfl
  obtain ⟨x, rfl, small, q1⟩ := q1
  obtain ⟨t, rfl⟩ := r1
  refine call_set_text (J.ok.hd hc) small fun h' tk S kept => args_nil ?_
  obtain ⟨o, es, ep, tb, ho, hex, hd, _, _, _, hf, hn⟩ := S
  have J2 : Inv X pins σ H1 { s1 with heap := h', toks := tk } := J.kept fun b o e => kept b o (Heap.lt_size e) e
  have few : es.size ≤ 1000 := by
    have a1 := dist_le (seen x x.cps.size)
    have a2 := seen_len x x.cps.size
    omega
  exact call_len_set ho hex hd hf (by omega) ⟨.int _, H1, J2.tok _, ⟨_, by rw [hn]⟩, q1⟩

/-! ### s[a:b:c], a text, c above nought -/
def tSl3 (te tl tu ts : TE) : TE := fun σ H Q => te σ H fun v H1 => tl σ H1 fun a H2 => tu σ H2 fun b H3 => ts σ H3 fun c H4 =>
  ∃ (x : Str) (i j k : Int), v = .str x ∧ a = .int i ∧ b = .int j ∧ c = .int k ∧ 0 < k ∧ x.length ≤ sizeLine ∧
    Q (.str (Txt.sliceBy x (some (i, 0)) (some (j, 0)) (k, 0))) H4
theorem sliceBy_tok (x : Str) (i j k : Int) (t1 t2 t3 : Tok) : Txt.sliceBy x (some (i, t1)) (some (j, t2)) (k, t3) = Txt.sliceBy x (some (i, 0)) (some (j, 0)) (k, 0) := rfl
theorem pe_slice3 {X : Cx} {e lo hi st : Expr} {te tl tu ts : TE} {p2 pos : Pos} (he : PE X e te) (hl : PE X lo tl) (hu : PE X hi tu) (hs : PE X st ts) :
    PE X (.Subscript e (.Slice (some lo) (some hi) (some st) p2) pos) (tSl3 te tl tu ts) := by
  refine ⟨fun pins s σ H Q I h => ?_⟩
  refine Subscript_ (thn (he.run pins s σ H _ I h) fun v s1 ⟨x, H1, I1, r1, q1⟩ => ?_)
  refine wpAny_Slice ?_
  rw [evalPart_some]
  refine thn (hl.run pins s1 σ H1 _ I1 q1) fun vl s2 ⟨a, H2, I2, r2, q2⟩ => ?_
  rw [evalPart_some]
  refine thn (hu.run pins s2 σ H2 _ I2 q2) fun vu s3 ⟨b, H3, I3, r3, q3⟩ => ?_
  rw [evalPart_some]
  refine thn (hs.run pins s3 σ H3 _ I3 q3) fun vs s4 ⟨c, H4, I4, r4, q4⟩ => ?_
  obtain ⟨y, i, j, k, rfl, rfl, rfl, rfl, pos, z, q⟩ := q4
  obtain ⟨t0, rfl⟩ := r1
  obtain ⟨t1, rfl⟩ := r2
  obtain ⟨t2, rfl⟩ := r3
  obtain ⟨t3, rfl⟩ := r4
  have J : Inv X pins σ H4 { s4 with heap := s4.heap.push { cls := .type "slice", data := .fields #[.int i t1, .int j t2, .int k t3] } } :=
    I4.kept (t' := s4.toks) fun b ob q => Heap.get?_push_of_some _ q
  have k0 : (k == 0) = false := beq_eq_false_iff_ne.mpr (by omega)
  refine tail_any (ops := [.ref s4.heap.objs.size, .str y t0]) (typeIs_str _ _ _) F.slot_str_getitem.lookup ?_ (by with_unfolding_all rfl)
  refine wpAny_getItem_str_slice (l := some (i, t1)) (u := some (j, t2)) (st := some (k, t3)) ⟨_, Heap.get?_push_size _ rfl, rfl, rfl⟩ k0 ?_
  refine post_val_or_str ⟨Nat.le_trans (Txt.sliceBy_le y (some (i, t1)) (some (j, t2)) (k, t3) (by show k ≠ 0; omega)) z, fun t' m => ?_⟩
  exact ⟨.str (Txt.sliceBy y (some (i, 0)) (some (j, 0)) (k, 0)), H4, J.tok _, ⟨t', rfl⟩, q⟩

/-! ### t.index(x), t a tuple of flat items -/
def rIndexT (K : PySem.W.Frag) : V → List V → Hp → VK → Prop := fun x xs H Q => ∃ (a : Addr) (ys : List V) (y : V) (j : Nat) (z : V),
  x = V.ref a ∧ xs = [y] ∧ SqT K H a ys ∧ flatV y = true ∧ ys.all flatV = true ∧ ys[j]? = some z ∧ eqV z y = true ∧
  (∀ (m : Nat) (z' : V), m < j → ys[m]? = some z' → eqV z' y = false) ∧ Q (.int (j : Nat)) H
theorem mt_indexT {X : Cx} : MtR X "tuple.index" (rIndexT X.K) := by
  intro pins s σ H x xs v us Q I rx rs h
  obtain ⟨a, ys, y, j, z, rfl, rfl, hT, fy, fys, hz, hit, hno, q⟩ := h
  cases rx
  obtain ⟨uy, rfl, ry⟩ := vals1 rs
  obtain ⟨its, rv, ⟨⟨cls, dd, dat, sl⟩, ho, hc, n, hd⟩, _⟩ := I.tuple hT
  simp only at hc hd
  subst hc hd
  have many := rv.length
  have at1 : ∀ (m : Nat) (hm : m < its.toArray.size), ∃ y', ys[m]? = some y' ∧ RelV y' its.toArray[m] ∧ flatV y' = true := fun m hm => by
    have hm' : m < ys.length := by rw [many]; simpa using hm
    have e1 : ys[m]? = some ys[m] := List.getElem?_eq_getElem hm'
    obtain ⟨u, hu, ru⟩ := rv.get e1
    obtain ⟨_, e2⟩ := List.getElem?_eq_some_iff.mp hu
    have e3 : its.toArray[m] = u := by simpa using e2
    exact ⟨_, e1, by rw [e3]; exact ru, flat_at fys e1⟩
  have hj : j < its.toArray.size := by
    have := (List.getElem?_eq_some_iff.mp hz).1
    simp only [List.size_toArray]; omega
  refine call_meets PySem.F.slot_tuple_index ⟨_, ho, rfl⟩ PySem.F.entry_tuple_index (PySem.F.args_tuple_index_2 _ _)
    (TI.tuple_indexAt a its.toArray n dd sl uy (eqU y) j hj ?_ ?_)
    ⟨ho, fun u' hu' => mem_eqAt ry fy rv fys u' (by simpa using hu'), ⟨.int (j : Nat), H, I.tok _, ⟨_, rfl⟩, q⟩⟩
  · obtain ⟨y', e1, r1, f1⟩ := at1 j hj
    rw [hz] at e1
    cases e1
    rw [eqU_of r1 f1]
    exact hit
  · intro m hm hmj
    obtain ⟨y', e1, r1, f1⟩ := at1 m hm
    rw [eqU_of r1 f1]
    exact hno m _ hmj e1

/-! ### t * 1 -/
theorem tuple_mul_one (l : Addr) (items : Array Value) (n : Nat) (dd : Option Addr) (sl : Array (Option Value)) (u : Tok) :
    Meets (Builtin.«tuple.__mul__» ⟨[.ref l, .int 1 u], []⟩) (fun _ R s =>
      s.heap.get? l = some { cls := .type "tuple", dict := dd, data := .seq items n, slots := sl } ∧ R (.ok (.ret (.ref l))) s) :=
  .of_wp fun prog w A R s h => by
    obtain ⟨hp, g, d, tk, os⟩ := s
    obtain ⟨hl, h⟩ := h
    have f1 := AutoSeq1.idx_int
    wp_walk using AutoSeq1.wpAny_loadPart' hl
    exact ⟨_, rfl, h⟩
/-- t * k, from one on: by one it is t itself -/
def rRepK (K : PySem.W.Frag) : R2 := fun x y H Q => ∃ (l : Addr) (k : Int) (xs : List V), x = .ref l ∧ y = .int k ∧ SqT K H l xs ∧ xs ≠ [] ∧
  1 ≤ k ∧ k ≤ 1000 ∧ xs.length ≤ 1000 ∧ (k = 1 → Q (.ref l) H) ∧
  (k ≠ 1 → ∀ p, H p = none → Q (.ref p) (upd H p (.tup (List.replicate k.toNat xs).flatten)))
theorem op_repK {X : Cx} : OpR X (binaryOp .Mult) (rRepK X.K) := by
  intro pins s σ H x y v u Q I rx ry h
  obtain ⟨l, k, xs, rfl, rfl, hT, hne, k1, k2, hz, q1, q2⟩ := h
  by_cases one : k = 1
  · subst one
    cases rx
    obtain ⟨t, rfl⟩ := ry
    obtain ⟨its, r, ⟨⟨cls, dd, dat, sl⟩, ho, hc, n, hd⟩, hs⟩ := I.tuple hT
    simp only at hc hd
    subst hc hd
    exact wpAny_binaryOp_repeat_ref (T := "tuple") (U := "int") (by decide) ⟨_, ho, rfl⟩ (fun s' => typeIs_int s' 1 t)
      noFill_tuple_mul F.fills_int_mul F.slot_int_rmul repeat_tuple F.slot_int_index.lookup
      (call_meets F.slot_int_rmul (typeIs_int s 1 t) F.entry_int_rmul (F.args_int_rmul_2 _ _) (int_rmul_tuple 1 t l its.toArray n dd sl)
        ⟨ho, rfl, ⟨_, ho, rfl⟩, call_meets F.slot_tuple_mul ⟨_, ho, rfl⟩ F.entry_tuple_mul (F.args_tuple_mul_2 _ _)
          (tuple_mul_one l its.toArray n dd sl t) ⟨ho, ⟨.ref l, H, I, rfl, q1 rfl⟩⟩⟩)
  · exact op_repT pins s σ H (.ref l) (.int k) v u Q I rx ry ⟨l, k, xs, rfl, rfl, hT, hne, by omega, k2, hz, q2 one⟩
end Tv

namespace Tv
open PySem PySem.Spec PyProof.Rows L2
/-! ### zip(*texts) where the tuple goes to one name -/
abbrev zipObj (f0 b1 : Value) (TI TO : Addr) : Obj := { cls := .type "zip", dict := none, data := .fields #[f0, b1, .bool false, .ref TI, .ref TO], slots := #[] }
/-- what the zip says of the tuple that it gave last: nothing, or where it stands -/
def Owned (f0 : Value) : Prop := f0 = .none ∨ ∃ T : Nat, f0 = rawInt (T : Nat)
def Twice (b1 : Value) : Prop := b1 = .bool false ∨ b1 = .bool true
section
variable {prog : Program} {w : World} {A : Around} {E : Value → Shared → Prop} {s : Shared}
theorem alive_look {a : Addr} {Q : Option Obj → Shared → Prop} (h : Q (s.heap.get? a) s) : wpAny (model prog w) A (loadIfAlive a) Q E s := fun Γ p _ => by
  show Sem.wp _ _ (.loadIfAlive a .pure) _ _ _ _
  rw [Sem.wp_loadIfAlive]
  exact (Sem.wp_pure ..).mpr h
theorem str_at {h h' : Heap} {a : Addr} {ty : String} {x : Str} {t : Tok} {i : Nat} (S : h.IsStrIter a ty x t i) (k : ∀ o, h.get? a = some o → h'.get? a = some o) : h'.IsStrIter a ty x t i :=
  let ⟨o, e, r⟩ := S; ⟨o, k o e, r⟩
theorem same_self (z : Addr) (h : Heap) : Heap.SameBut z h h := ⟨rfl, fun _ _ => rfl⟩
theorem free_or_not {z TI TO : Addr} {f0 b1 : Value} {Q : Bool → Shared → Prop} (at_z : s.heap.get? z = some (zipObj f0 b1 TI TO)) (own : Owned f0) (twice : Twice b1)
    (k : ∀ b h' b2, h'.get? z = some (zipObj f0 b2 TI TO) → Twice b2 → Heap.SameBut z s.heap h' → Q b { s with heap := h' }) :
    wpAny (model prog w) A (Builtin.SmallTypes.ownedTupleIsFree (.ref z)) Q E s := by
  unfold Builtin.SmallTypes.ownedTupleIsFree
  refine wpAny_bind (wpAny_field at_z rfl (x := f0) rfl ?_)
  rcases own with rfl | ⟨T, rfl⟩
  · exact wpAny_pure (k true s.heap b1 at_z twice (same_self ..))
  · show wpAny _ _ (loadIfAlive T >>= _) _ _ _
    refine wpAny_bind (alive_look ?_)
    cases s.heap.get? T with
    | none => exact wpAny_pure (k true s.heap b1 at_z twice (same_self ..))
    | some o =>
      show wpAny _ _ (field (.ref z) 1 >>= _) _ _ _
      refine wpAny_bind (wpAny_field at_z rfl (x := b1) rfl ?_)
      rcases twice with rfl | rfl
      · show wpAny _ _ (setField (.ref z) 1 (.bool true) >>= _) _ _ _
        refine wpAny_bind (wpAny_setField_rec at_z (by simp) fun h' at_z' same => ?_)
        exact wpAny_pure (k false h' (.bool true) at_z' (.inr rfl) same)
      · exact wpAny_pure (k false s.heap (.bool true) at_z (.inr rfl) (same_self ..))
end

/-- 1 texts drawn side by side: the cells, at the turn i -/
structure Side1 (h : Heap) (z TI TO : Addr) (i1 : Addr) (x1 : Str) (t1 : Tok) (i : Nat) : Prop where
  zip : ∃ f0 b1, h.get? z = some (zipObj f0 b1 TI TO) ∧ Owned f0 ∧ Twice b1
  src : h.get? TI = some { cls := .type "tuple", data := .seq #[.ref i1] }
  out : ∃ v1, h.get? TO = some { cls := .type "tuple", data := .seq #[v1] }
  it1 : h.IsStrIter i1 "str_ascii_iterator" x1 t1 i
section
variable {prog : Program} {w : World} {A : Around} {E : Value → Shared → Prop} {s : Shared} {z TI TO i1 : Addr} {x1 : Str} {t1 : Tok} {i : Nat}
theorem side1_keep {h h' : Heap} (S : Side1 h z TI TO i1 x1 t1 i) (k : ∀ b ∈ [z, TI, TO, i1], ∀ o, h.get? b = some o → h'.get? b = some o) : Side1 h' z TI TO i1 x1 t1 i := by
  obtain ⟨⟨f0, b1, a1, a2, a3⟩, b, ⟨v1, c⟩, d1⟩ := S
  exact ⟨⟨f0, b1, k _ (by simp) _ a1, a2, a3⟩, k _ (by simp) _ b, ⟨v1, k _ (by simp) _ c⟩, str_at d1 fun o q => k _ (by simp) o q⟩
theorem side1_item (hh : A.handled = none) (apart : [z, TI, TO, i1].Nodup) (S : Side1 s.heap z TI TO i1 x1 t1 i) {c1 : Nat} (h1 : x1.cps[i]? = some c1) {Q : Value → Shared → Prop}
    (got : ∀ h' tk u1, Side1 h' z TI TO i1 x1 t1 (i + 1) → h'.get? s.heap.objs.size = some { cls := .type "tuple", data := .seq #[.str ⟨#[c1]⟩ u1] } → h'.objs.size = s.heap.objs.size + 1 →
      (∀ b o, b ≠ z → b ≠ TO → b ≠ i1 → s.heap.get? b = some o → h'.get? b = some o) → Q (.ref s.heap.objs.size) { s with heap := h', toks := tk }) :
    wpAny (model prog w) A (Builtin.«zip.__next__» ⟨[.ref z], []⟩) (fun fin s' => ∃ v, fin = .done (.ret v) ∧ Q v s') E s := by
  have ne_z_TI : z ≠ TI := by rintro rfl; simp at apart
  have ne_z_TO : z ≠ TO := by rintro rfl; simp at apart
  have ne_z_i1 : z ≠ i1 := by rintro rfl; simp at apart
  have ne_TI_TO : TI ≠ TO := by rintro rfl; simp at apart
  have ne_TI_i1 : TI ≠ i1 := by rintro rfl; simp at apart
  have ne_TO_i1 : TO ≠ i1 := by rintro rfl; simp at apart
  obtain ⟨hp, g, d, tk0, os⟩ := s
  obtain ⟨⟨f0, b1, at_z, own, twice⟩, at_src, ⟨v1, at_out⟩, d1⟩ := S
  show wpAny _ _ (field (.ref z) 2 >>= _) _ _ _
  refine wpAny_bind (wpAny_field at_z rfl (x := .bool false) rfl ?_)
  show wpAny _ _ (field (.ref z) 3 >>= _) _ _ _
  refine wpAny_bind (wpAny_field at_z rfl (x := .ref TI) rfl (wpAny_bind (wpAny_seqItems at_src rfl ?_)))
  show wpAny _ _ (Builtin.SmallTypes.ownedTupleIsFree (.ref z) >>= _) _ _ _
  refine wpAny_bind (free_or_not at_z own twice fun b hx b2 at_z1 twice2 same1 => ?_)
  replace same1 : Heap.SameBut z hp hx := same1
  have out1 := same1.extBut _ _ ne_z_TO.symm at_out
  have src1 := same1.extBut _ _ ne_z_TI.symm at_src
  have e1 : hx.IsStrIter i1 "str_ascii_iterator" x1 t1 i := d1.extBut same1.extBut ne_z_i1.symm
  cases b with
  | true =>
    simp only [if_true]
    refine wpAny_bind (wpAny_rule (wpAny_bind (wpAny_field (s := ⟨hx, g, d, tk0, os⟩) at_z1 rfl (x := .ref TO) rfl (wpAny_bind (wpAny_setField_rec (s := ⟨hx, g, d, tk0, os⟩) at_z1 (by simp) fun j0 at_zj samej => ?_)))))
    replace at_zj : j0.get? z = some (zipObj .ellipsis b2 TI TO) := at_zj
    replace samej : Heap.SameBut z hx j0 := samej
    have out_0 := samej.extBut _ _ ne_z_TO.symm out1
    refine wpAny_bind ?_
    simp only [List.zipIdx_cons, List.zipIdx_nil, List.forIn_cons, List.forIn_nil]
    refine wpAny_bind (wpAny_bind (wpAny_onRaise ?_))
    show wpAny _ _ (Builtin.SmallTypes.nextOf (.ref i1) >>= _) _ _ ⟨j0, g, d, tk0, os⟩
    refine wpAny_bind (wpAny_nextOf_ascii_item (s := ⟨j0, g, d, tk0, os⟩) ((e1).extBut samej.extBut ne_z_i1.symm) h1 fun p1 new1 samep1 => wpAny_pure ?_)
    replace samep1 : Heap.SameBut i1 j0 p1 := samep1
    have mid1 := samep1.extBut _ _ ne_TO_i1 out_0
    refine wpAny_bind (wpAny_seqItems (s := ⟨p1, g, d, tk0 + 1, os⟩) mid1 rfl (wpAny_bind (wpAny_updateSeq (s := ⟨p1, g, d, tk0 + 1, os⟩) mid1 rfl ?_)))
    generalize eq1 : p1.update TO _ = j1
    have out_1 : j1.get? TO = some { cls := .type "tuple", data := .seq #[.str ⟨#[c1]⟩ (tk0)] } := by
      rw [← eq1, Heap.get?_update_self _ mid1 rfl]
      simp [Obj.mapSeq]
    have sameo1 : Heap.SameBut TO p1 j1 := by rw [← eq1]; exact Heap.SameBut.update ..
    refine wpAny_bind (wpAny_letGo (wpAny_pure (wpAny_pure ?_)))
    refine wpAny_bind (wpAny_seqItems (s := ⟨j1, g, d, tk0 + 1, os⟩) out_1 rfl (wpAny_bind (wpAny_newTuple ?_)))
    have at_zn : j1.get? z = some (zipObj .ellipsis b2 TI TO) := (sameo1.extBut _ _ ne_z_TO (samep1.extBut _ _ ne_z_i1 at_zj))
    have size_n : j1.objs.size = hp.objs.size := by rw [sameo1.1, samep1.1, samej.1, same1.1]
    have lt_z : z < j1.objs.size := Heap.lt_size at_zn
    show wpAny _ _ (Builtin.SmallTypes.ownedTupleHandOut (.ref z) (.ref j1.objs.size) >>= _) _ _ ⟨j1.push { cls := .type "tuple", data := .seq #[.str ⟨#[c1]⟩ (tk0)] }, g, d, tk0 + 1, os⟩
    refine wpAny_bind ?_
    unfold Builtin.SmallTypes.ownedTupleHandOut
    have at_zt : (j1.push { cls := .type "tuple", data := .seq #[.str ⟨#[c1]⟩ (tk0)] }).get? z = some (zipObj .ellipsis b2 TI TO) := Heap.get?_push_of_some _ at_zn
    refine wpAny_bind (wpAny_setField_rec at_zt (by simp) fun m1 at_m1 same_m1 => ?_)
    replace at_m1 : m1.get? z = some (zipObj (rawInt j1.objs.size) b2 TI TO) := at_m1
    refine wpAny_setField_rec at_m1 (by simp) fun m2 at_m2 same_m2 => ?_
    replace at_m2 : m2.get? z = some (zipObj (rawInt j1.objs.size) (.bool false) TI TO) := at_m2
    replace same_m1 : Heap.SameBut z (j1.push { cls := .type "tuple", data := .seq #[.str ⟨#[c1]⟩ (tk0)] }) m1 := same_m1
    replace same_m2 : Heap.SameBut z m1 m2 := same_m2
    have up : ∀ b o, b ≠ z → j1.get? b = some o → m2.get? b = some o := fun b o c e => same_m2.extBut _ _ c (same_m1.extBut _ _ c (Heap.get?_push_of_some _ e))
    refine wpAny_pure ⟨_, rfl, ?_⟩
    have made := same_m2.extBut _ _ (Nat.ne_of_gt lt_z) (same_m1.extBut _ _ (Nat.ne_of_gt lt_z) (Heap.get?_push_size j1 (o := { cls := .type "tuple", data := .seq #[.str ⟨#[c1]⟩ (tk0)] }) rfl))
    have size_m : m2.objs.size = hp.objs.size + 1 := by rw [same_m2.1, same_m1.1, Heap.size_push, size_n]
    rw [size_n] at made
    show Q (.ref j1.objs.size) ⟨m2, g, d, tk0 + 1, os⟩
    rw [size_n]
    refine got m2 (tk0 + 1) (tk0) ⟨⟨_, _, at_m2, .inr ⟨_, rfl⟩, .inl rfl⟩, up _ _ ne_z_TI.symm ((sameo1.extBut _ _ ne_TI_TO (samep1.extBut _ _ ne_TI_i1 (samej.extBut _ _ ne_z_TI.symm src1)))), ⟨_, up _ _ ne_z_TO.symm out_1⟩, str_at ((new1).extBut sameo1.extBut ne_TO_i1.symm) fun o q => up _ o ne_z_i1.symm q⟩ made size_m fun b o cz cT n1 e => up b o cz ((sameo1.extBut _ _ cT (samep1.extBut _ _ n1 (samej.extBut _ _ cz (same1.extBut _ _ cz e)))))
  | false =>
    simp only [Bool.false_eq_true, if_false]
    refine wpAny_bind ?_
    simp only [List.forIn_toArray, List.forIn_cons, List.forIn_nil]
    refine wpAny_bind (wpAny_bind (wpAny_holding ?_))
    show wpAny _ _ (Builtin.SmallTypes.nextOf (.ref i1) >>= _) _ _ ⟨hx, g, d, tk0, os⟩
    refine wpAny_bind (wpAny_nextOf_ascii_item (s := ⟨hx, g, d, tk0, os⟩) (e1) h1 fun p1 new1 samep1 => wpAny_pure (wpAny_pure (wpAny_pure ?_)))
    replace samep1 : Heap.SameBut i1 hx p1 := samep1
    have size_n : p1.objs.size = hp.objs.size := by rw [samep1.1, same1.1]
    refine wpAny_bind (wpAny_newTuple (hsz := by show 1 ≤ sizeLine; decide) (wpAny_pure ⟨_, rfl, ?_⟩))
    have made := Heap.get?_push_size p1 (o := { cls := .type "tuple", data := .seq #[.str ⟨#[c1]⟩ (tk0)] }) rfl
    show Q (.ref p1.objs.size) ⟨p1.push { cls := .type "tuple", data := .seq #[.str ⟨#[c1]⟩ (tk0)] }, g, d, tk0 + 1, os⟩
    rw [size_n] at made ⊢
    refine got _ (tk0 + 1) (tk0) ⟨⟨_, _, Heap.get?_push_of_some _ ((samep1.extBut _ _ ne_z_i1 at_z1)), own, twice2⟩, Heap.get?_push_of_some _ ((samep1.extBut _ _ ne_TI_i1 src1)), ⟨_, Heap.get?_push_of_some _ ((samep1.extBut _ _ ne_TO_i1 out1))⟩, str_at (new1) fun o q => Heap.get?_push_of_some _ q⟩ made (by rw [Heap.size_push, size_n]) fun b o cz cT n1 e => Heap.get?_push_of_some _ ((samep1.extBut _ _ n1 (same1.extBut _ _ cz e)))
theorem side1_end (hh : A.handled = none) (apart : [z, TI, TO, i1].Nodup) (S : Side1 s.heap z TI TO i1 x1 t1 i) (h1 : x1.cps[i]? = none) {Q : Fin → Shared → Prop}
    (fin : ∀ h' e, (∀ b o, b ≠ z → b ≠ TO → b ≠ i1 → s.heap.get? b = some o → h'.get? b = some o) → (∃ o, h'.get? e = some o ∧ o.cls = .type "StopIteration") → E (.ref e) { s with heap := h' }) :
    wpAny (model prog w) A (Builtin.«zip.__next__» ⟨[.ref z], []⟩) Q E s := by
  have ne_z_TI : z ≠ TI := by rintro rfl; simp at apart
  have ne_z_TO : z ≠ TO := by rintro rfl; simp at apart
  have ne_z_i1 : z ≠ i1 := by rintro rfl; simp at apart
  have ne_TI_TO : TI ≠ TO := by rintro rfl; simp at apart
  have ne_TI_i1 : TI ≠ i1 := by rintro rfl; simp at apart
  have ne_TO_i1 : TO ≠ i1 := by rintro rfl; simp at apart
  obtain ⟨hp, g, d, tk0, os⟩ := s
  obtain ⟨⟨f0, b1, at_z, own, twice⟩, at_src, ⟨v1, at_out⟩, d1⟩ := S
  show wpAny _ _ (field (.ref z) 2 >>= _) _ _ _
  refine wpAny_bind (wpAny_field at_z rfl (x := .bool false) rfl ?_)
  show wpAny _ _ (field (.ref z) 3 >>= _) _ _ _
  refine wpAny_bind (wpAny_field at_z rfl (x := .ref TI) rfl (wpAny_bind (wpAny_seqItems at_src rfl ?_)))
  show wpAny _ _ (Builtin.SmallTypes.ownedTupleIsFree (.ref z) >>= _) _ _ _
  refine wpAny_bind (free_or_not at_z own twice fun b hx b2 at_z1 twice2 same1 => ?_)
  replace same1 : Heap.SameBut z hp hx := same1
  have e1 : hx.IsStrIter i1 "str_ascii_iterator" x1 t1 i := d1.extBut same1.extBut ne_z_i1.symm
  cases b with
  | true =>
    simp only [if_true]
    refine wpAny_bind (wpAny_rule (wpAny_bind (wpAny_field (s := ⟨hx, g, d, tk0, os⟩) at_z1 rfl (x := .ref TO) rfl (wpAny_bind (wpAny_setField_rec (s := ⟨hx, g, d, tk0, os⟩) at_z1 (by simp) fun j0 at_zj samej => ?_)))))
    replace at_zj : j0.get? z = some (zipObj .ellipsis b2 TI TO) := at_zj
    replace samej : Heap.SameBut z hx j0 := samej
    refine wpAny_bind ?_
    simp only [List.zipIdx_cons, List.zipIdx_nil, List.forIn_cons, List.forIn_nil]
    refine wpAny_bind (wpAny_bind (wpAny_onRaise ?_))
    show wpAny _ _ (Builtin.SmallTypes.nextOf (.ref i1) >>= _) _ _ ⟨j0, g, d, tk0, os⟩
    refine wpAny_bind (wpAny_nextOf_ascii_end (s := ⟨j0, g, d, tk0, os⟩) hh (e1.extBut samej.extBut ne_z_i1.symm) h1 fun p1 e samep ⟨oe, at_e, cls_e⟩ => ?_)
    replace samep : Heap.ExtBut i1 j0 p1 := samep
    have at_zp : p1.get? z = some (zipObj .ellipsis b2 TI TO) := samep _ _ ne_z_i1 at_zj
    have e_z : e ≠ z := fun q => by rw [q] at at_e; rw [at_zp] at at_e; cases at_e; simp at cls_e
    refine wpAny_setField_rec (s := ⟨p1, g, d, tk0, os⟩) at_zp (by simp) fun p2 _ same2 => ?_
    exact fin p2 e (fun b o cz _ n1  q => same2.extBut _ _ cz (samep _ _ n1 (samej.extBut _ _ cz (same1.extBut _ _ cz q)))) ⟨oe, same2.extBut _ _ e_z at_e, cls_e⟩
  | false =>
    simp only [Bool.false_eq_true, if_false]
    refine wpAny_bind ?_
    simp only [List.forIn_toArray, List.forIn_cons, List.forIn_nil]
    refine wpAny_bind (wpAny_bind (wpAny_holding ?_))
    show wpAny _ _ (Builtin.SmallTypes.nextOf (.ref i1) >>= _) _ _ ⟨hx, g, d, tk0, os⟩
    refine wpAny_bind (wpAny_nextOf_ascii_end (s := ⟨hx, g, d, tk0, os⟩) hh e1 h1 fun p1 e samep there => ?_)
    replace samep : Heap.ExtBut i1 hx p1 := samep
    exact fin p1 e (fun b o cz _ n1  q => samep _ _ n1 (same1.extBut _ _ cz q)) there
theorem next1_item (hh : A.handled = none) (apart : [z, TI, TO, i1].Nodup) (S : Side1 s.heap z TI TO i1 x1 t1 i) {c1 : Nat} (h1 : x1.cps[i]? = some c1) {Q : Option Value → Shared → Prop}
    (got : ∀ h' tk u1, Side1 h' z TI TO i1 x1 t1 (i + 1) → h'.get? s.heap.objs.size = some { cls := .type "tuple", data := .seq #[.str ⟨#[c1]⟩ u1] } → h'.objs.size = s.heap.objs.size + 1 →
      (∀ b o, b ≠ z → b ≠ TO → b ≠ i1 → s.heap.get? b = some o → h'.get? b = some o) → Q (some (.ref s.heap.objs.size)) { s with heap := h', toks := tk }) :
    wpAny (model prog w) A (pyNext (.ref z)) Q E s := by
  obtain ⟨f0, b1, at_z, _⟩ := S.zip
  have isZip : s.TypeIs (.ref z) "zip" := ⟨_, at_z, rfl⟩
  unfold pyNext
  exact wpAny_bind (wpAny_attempt (wpAny_callSpecial?_slot (name := Str.ofString "__next__") isZip F.slot_zip_next (wpAny_call_entry F.slot_zip_next isZip F.entry_zip_next
    (side1_item (A := A.in1) (show A.in1.handled = none from hh) apart S h1 fun h' tk u1 q1 q2 q3 q4 => wpAny_pure (got h' tk u1 q1 q2 q3 q4)) (F.args_zip_next_1 _))))
theorem next1_end (hh : A.handled = none) (apart : [z, TI, TO, i1].Nodup) (S : Side1 s.heap z TI TO i1 x1 t1 i) (h1 : x1.cps[i]? = none) {Q : Option Value → Shared → Prop}
    (fin : ∀ h', (∀ b o, b ≠ z → b ≠ TO → b ≠ i1 → s.heap.get? b = some o → h'.get? b = some o) → Q none { s with heap := h' }) :
    wpAny (model prog w) A (pyNext (.ref z)) Q E s := by
  obtain ⟨f0, b1, at_z, _⟩ := S.zip
  have isZip : s.TypeIs (.ref z) "zip" := ⟨_, at_z, rfl⟩
  unfold pyNext
  refine wpAny_bind (wpAny_attempt (wpAny_callSpecial?_slot (name := Str.ofString "__next__") isZip F.slot_zip_next (wpAny_call_entry F.slot_zip_next isZip F.entry_zip_next
    (side1_end (A := A.in1) (show A.in1.handled = none from hh) apart S h1 fun h' e keep there => ?_) (F.args_zip_next_1 _))))
  obtain ⟨oe, at_e, cls_e⟩ := there
  exact wpAny_bind (wpAny_isInstance (T := "StopIteration") (b := true) ⟨oe, at_e, cls_e⟩ isSubtype_stop (wpAny_pure (fin h' keep)))
end
/-- 2 texts drawn side by side: the cells, at the turn i -/
structure Side2 (h : Heap) (z TI TO : Addr) (i1 i2 : Addr) (x1 x2 : Str) (t1 t2 : Tok) (i : Nat) : Prop where
  zip : ∃ f0 b1, h.get? z = some (zipObj f0 b1 TI TO) ∧ Owned f0 ∧ Twice b1
  src : h.get? TI = some { cls := .type "tuple", data := .seq #[.ref i1, .ref i2] }
  out : ∃ v1 v2, h.get? TO = some { cls := .type "tuple", data := .seq #[v1, v2] }
  it1 : h.IsStrIter i1 "str_ascii_iterator" x1 t1 i
  it2 : h.IsStrIter i2 "str_ascii_iterator" x2 t2 i
section
variable {prog : Program} {w : World} {A : Around} {E : Value → Shared → Prop} {s : Shared} {z TI TO i1 i2 : Addr} {x1 x2 : Str} {t1 t2 : Tok} {i : Nat}
theorem side2_keep {h h' : Heap} (S : Side2 h z TI TO i1 i2 x1 x2 t1 t2 i) (k : ∀ b ∈ [z, TI, TO, i1, i2], ∀ o, h.get? b = some o → h'.get? b = some o) : Side2 h' z TI TO i1 i2 x1 x2 t1 t2 i := by
  obtain ⟨⟨f0, b1, a1, a2, a3⟩, b, ⟨v1, v2, c⟩, d1, d2⟩ := S
  exact ⟨⟨f0, b1, k _ (by simp) _ a1, a2, a3⟩, k _ (by simp) _ b, ⟨v1, v2, k _ (by simp) _ c⟩, str_at d1 fun o q => k _ (by simp) o q, str_at d2 fun o q => k _ (by simp) o q⟩
theorem side2_item (hh : A.handled = none) (apart : [z, TI, TO, i1, i2].Nodup) (S : Side2 s.heap z TI TO i1 i2 x1 x2 t1 t2 i) {c1 c2 : Nat} (h1 : x1.cps[i]? = some c1) (h2 : x2.cps[i]? = some c2) {Q : Value → Shared → Prop}
    (got : ∀ h' tk u1 u2, Side2 h' z TI TO i1 i2 x1 x2 t1 t2 (i + 1) → h'.get? s.heap.objs.size = some { cls := .type "tuple", data := .seq #[.str ⟨#[c1]⟩ u1, .str ⟨#[c2]⟩ u2] } → h'.objs.size = s.heap.objs.size + 1 →
      (∀ b o, b ≠ z → b ≠ TO → b ≠ i1 → b ≠ i2 → s.heap.get? b = some o → h'.get? b = some o) → Q (.ref s.heap.objs.size) { s with heap := h', toks := tk }) :
    wpAny (model prog w) A (Builtin.«zip.__next__» ⟨[.ref z], []⟩) (fun fin s' => ∃ v, fin = .done (.ret v) ∧ Q v s') E s := by
  have ne_z_TI : z ≠ TI := by rintro rfl; simp at apart
  have ne_z_TO : z ≠ TO := by rintro rfl; simp at apart
  have ne_z_i1 : z ≠ i1 := by rintro rfl; simp at apart
  have ne_z_i2 : z ≠ i2 := by rintro rfl; simp at apart
  have ne_TI_TO : TI ≠ TO := by rintro rfl; simp at apart
  have ne_TI_i1 : TI ≠ i1 := by rintro rfl; simp at apart
  have ne_TI_i2 : TI ≠ i2 := by rintro rfl; simp at apart
  have ne_TO_i1 : TO ≠ i1 := by rintro rfl; simp at apart
  have ne_TO_i2 : TO ≠ i2 := by rintro rfl; simp at apart
  have ne_i1_i2 : i1 ≠ i2 := by rintro rfl; simp at apart
  obtain ⟨hp, g, d, tk0, os⟩ := s
  obtain ⟨⟨f0, b1, at_z, own, twice⟩, at_src, ⟨v1, v2, at_out⟩, d1, d2⟩ := S
  show wpAny _ _ (field (.ref z) 2 >>= _) _ _ _
  refine wpAny_bind (wpAny_field at_z rfl (x := .bool false) rfl ?_)
  show wpAny _ _ (field (.ref z) 3 >>= _) _ _ _
  refine wpAny_bind (wpAny_field at_z rfl (x := .ref TI) rfl (wpAny_bind (wpAny_seqItems at_src rfl ?_)))
  show wpAny _ _ (Builtin.SmallTypes.ownedTupleIsFree (.ref z) >>= _) _ _ _
  refine wpAny_bind (free_or_not at_z own twice fun b hx b2 at_z1 twice2 same1 => ?_)
  replace same1 : Heap.SameBut z hp hx := same1
  have out1 := same1.extBut _ _ ne_z_TO.symm at_out
  have src1 := same1.extBut _ _ ne_z_TI.symm at_src
  have e1 : hx.IsStrIter i1 "str_ascii_iterator" x1 t1 i := d1.extBut same1.extBut ne_z_i1.symm
  have e2 : hx.IsStrIter i2 "str_ascii_iterator" x2 t2 i := d2.extBut same1.extBut ne_z_i2.symm
  cases b with
  | true =>
    simp only [if_true]
    refine wpAny_bind (wpAny_rule (wpAny_bind (wpAny_field (s := ⟨hx, g, d, tk0, os⟩) at_z1 rfl (x := .ref TO) rfl (wpAny_bind (wpAny_setField_rec (s := ⟨hx, g, d, tk0, os⟩) at_z1 (by simp) fun j0 at_zj samej => ?_)))))
    replace at_zj : j0.get? z = some (zipObj .ellipsis b2 TI TO) := at_zj
    replace samej : Heap.SameBut z hx j0 := samej
    have out_0 := samej.extBut _ _ ne_z_TO.symm out1
    refine wpAny_bind ?_
    simp only [List.zipIdx_cons, List.zipIdx_nil, List.forIn_cons, List.forIn_nil]
    refine wpAny_bind (wpAny_bind (wpAny_onRaise ?_))
    show wpAny _ _ (Builtin.SmallTypes.nextOf (.ref i1) >>= _) _ _ ⟨j0, g, d, tk0, os⟩
    refine wpAny_bind (wpAny_nextOf_ascii_item (s := ⟨j0, g, d, tk0, os⟩) ((e1).extBut samej.extBut ne_z_i1.symm) h1 fun p1 new1 samep1 => wpAny_pure ?_)
    replace samep1 : Heap.SameBut i1 j0 p1 := samep1
    have mid1 := samep1.extBut _ _ ne_TO_i1 out_0
    refine wpAny_bind (wpAny_seqItems (s := ⟨p1, g, d, tk0 + 1, os⟩) mid1 rfl (wpAny_bind (wpAny_updateSeq (s := ⟨p1, g, d, tk0 + 1, os⟩) mid1 rfl ?_)))
    generalize eq1 : p1.update TO _ = j1
    have out_1 : j1.get? TO = some { cls := .type "tuple", data := .seq #[.str ⟨#[c1]⟩ (tk0), v2] } := by
      rw [← eq1, Heap.get?_update_self _ mid1 rfl]
      simp [Obj.mapSeq]
    have sameo1 : Heap.SameBut TO p1 j1 := by rw [← eq1]; exact Heap.SameBut.update ..
    refine wpAny_bind (wpAny_letGo (wpAny_pure ?_))
    refine wpAny_bind (wpAny_bind (wpAny_onRaise ?_))
    show wpAny _ _ (Builtin.SmallTypes.nextOf (.ref i2) >>= _) _ _ ⟨j1, g, d, tk0 + 1, os⟩
    refine wpAny_bind (wpAny_nextOf_ascii_item (s := ⟨j1, g, d, tk0 + 1, os⟩) ((((e2).extBut samej.extBut ne_z_i2.symm).extBut samep1.extBut ne_i1_i2.symm).extBut sameo1.extBut ne_TO_i2.symm) h2 fun p2 new2 samep2 => wpAny_pure ?_)
    replace samep2 : Heap.SameBut i2 j1 p2 := samep2
    have mid2 := samep2.extBut _ _ ne_TO_i2 out_1
    refine wpAny_bind (wpAny_seqItems (s := ⟨p2, g, d, tk0 + 1 + 1, os⟩) mid2 rfl (wpAny_bind (wpAny_updateSeq (s := ⟨p2, g, d, tk0 + 1 + 1, os⟩) mid2 rfl ?_)))
    generalize eq2 : p2.update TO _ = j2
    have out_2 : j2.get? TO = some { cls := .type "tuple", data := .seq #[.str ⟨#[c1]⟩ (tk0), .str ⟨#[c2]⟩ (tk0 + 1)] } := by
      rw [← eq2, Heap.get?_update_self _ mid2 rfl]
      simp [Obj.mapSeq]
    have sameo2 : Heap.SameBut TO p2 j2 := by rw [← eq2]; exact Heap.SameBut.update ..
    refine wpAny_bind (wpAny_letGo (wpAny_pure (wpAny_pure ?_)))
    refine wpAny_bind (wpAny_seqItems (s := ⟨j2, g, d, tk0 + 1 + 1, os⟩) out_2 rfl (wpAny_bind (wpAny_newTuple ?_)))
    have at_zn : j2.get? z = some (zipObj .ellipsis b2 TI TO) := (sameo2.extBut _ _ ne_z_TO (samep2.extBut _ _ ne_z_i2 (sameo1.extBut _ _ ne_z_TO (samep1.extBut _ _ ne_z_i1 at_zj))))
    have size_n : j2.objs.size = hp.objs.size := by rw [sameo2.1, samep2.1, sameo1.1, samep1.1, samej.1, same1.1]
    have lt_z : z < j2.objs.size := Heap.lt_size at_zn
    show wpAny _ _ (Builtin.SmallTypes.ownedTupleHandOut (.ref z) (.ref j2.objs.size) >>= _) _ _ ⟨j2.push { cls := .type "tuple", data := .seq #[.str ⟨#[c1]⟩ (tk0), .str ⟨#[c2]⟩ (tk0 + 1)] }, g, d, tk0 + 1 + 1, os⟩
    refine wpAny_bind ?_
    unfold Builtin.SmallTypes.ownedTupleHandOut
    have at_zt : (j2.push { cls := .type "tuple", data := .seq #[.str ⟨#[c1]⟩ (tk0), .str ⟨#[c2]⟩ (tk0 + 1)] }).get? z = some (zipObj .ellipsis b2 TI TO) := Heap.get?_push_of_some _ at_zn
    refine wpAny_bind (wpAny_setField_rec at_zt (by simp) fun m1 at_m1 same_m1 => ?_)
    replace at_m1 : m1.get? z = some (zipObj (rawInt j2.objs.size) b2 TI TO) := at_m1
    refine wpAny_setField_rec at_m1 (by simp) fun m2 at_m2 same_m2 => ?_
    replace at_m2 : m2.get? z = some (zipObj (rawInt j2.objs.size) (.bool false) TI TO) := at_m2
    replace same_m1 : Heap.SameBut z (j2.push { cls := .type "tuple", data := .seq #[.str ⟨#[c1]⟩ (tk0), .str ⟨#[c2]⟩ (tk0 + 1)] }) m1 := same_m1
    replace same_m2 : Heap.SameBut z m1 m2 := same_m2
    have up : ∀ b o, b ≠ z → j2.get? b = some o → m2.get? b = some o := fun b o c e => same_m2.extBut _ _ c (same_m1.extBut _ _ c (Heap.get?_push_of_some _ e))
    refine wpAny_pure ⟨_, rfl, ?_⟩
    have made := same_m2.extBut _ _ (Nat.ne_of_gt lt_z) (same_m1.extBut _ _ (Nat.ne_of_gt lt_z) (Heap.get?_push_size j2 (o := { cls := .type "tuple", data := .seq #[.str ⟨#[c1]⟩ (tk0), .str ⟨#[c2]⟩ (tk0 + 1)] }) rfl))
    have size_m : m2.objs.size = hp.objs.size + 1 := by rw [same_m2.1, same_m1.1, Heap.size_push, size_n]
    rw [size_n] at made
    show Q (.ref j2.objs.size) ⟨m2, g, d, tk0 + 1 + 1, os⟩
    rw [size_n]
    refine got m2 (tk0 + 1 + 1) (tk0) (tk0 + 1) ⟨⟨_, _, at_m2, .inr ⟨_, rfl⟩, .inl rfl⟩, up _ _ ne_z_TI.symm ((sameo2.extBut _ _ ne_TI_TO (samep2.extBut _ _ ne_TI_i2 (sameo1.extBut _ _ ne_TI_TO (samep1.extBut _ _ ne_TI_i1 (samej.extBut _ _ ne_z_TI.symm src1)))))), ⟨_, _, up _ _ ne_z_TO.symm out_2⟩, str_at ((((new1).extBut sameo1.extBut ne_TO_i1.symm).extBut samep2.extBut ne_i1_i2).extBut sameo2.extBut ne_TO_i1.symm) fun o q => up _ o ne_z_i1.symm q, str_at ((new2).extBut sameo2.extBut ne_TO_i2.symm) fun o q => up _ o ne_z_i2.symm q⟩ made size_m fun b o cz cT n1 n2 e => up b o cz ((sameo2.extBut _ _ cT (samep2.extBut _ _ n2 (sameo1.extBut _ _ cT (samep1.extBut _ _ n1 (samej.extBut _ _ cz (same1.extBut _ _ cz e)))))))
  | false =>
    simp only [Bool.false_eq_true, if_false]
    refine wpAny_bind ?_
    simp only [List.forIn_toArray, List.forIn_cons, List.forIn_nil]
    refine wpAny_bind (wpAny_bind (wpAny_holding ?_))
    show wpAny _ _ (Builtin.SmallTypes.nextOf (.ref i1) >>= _) _ _ ⟨hx, g, d, tk0, os⟩
    refine wpAny_bind (wpAny_nextOf_ascii_item (s := ⟨hx, g, d, tk0, os⟩) (e1) h1 fun p1 new1 samep1 => wpAny_pure (wpAny_pure ?_))
    replace samep1 : Heap.SameBut i1 hx p1 := samep1
    refine wpAny_bind (wpAny_bind (wpAny_holding ?_))
    show wpAny _ _ (Builtin.SmallTypes.nextOf (.ref i2) >>= _) _ _ ⟨p1, g, d, tk0 + 1, os⟩
    refine wpAny_bind (wpAny_nextOf_ascii_item (s := ⟨p1, g, d, tk0 + 1, os⟩) ((e2).extBut samep1.extBut ne_i1_i2.symm) h2 fun p2 new2 samep2 => wpAny_pure (wpAny_pure (wpAny_pure ?_)))
    replace samep2 : Heap.SameBut i2 p1 p2 := samep2
    have size_n : p2.objs.size = hp.objs.size := by rw [samep2.1, samep1.1, same1.1]
    refine wpAny_bind (wpAny_newTuple (hsz := by show 2 ≤ sizeLine; decide) (wpAny_pure ⟨_, rfl, ?_⟩))
    have made := Heap.get?_push_size p2 (o := { cls := .type "tuple", data := .seq #[.str ⟨#[c1]⟩ (tk0), .str ⟨#[c2]⟩ (tk0 + 1)] }) rfl
    show Q (.ref p2.objs.size) ⟨p2.push { cls := .type "tuple", data := .seq #[.str ⟨#[c1]⟩ (tk0), .str ⟨#[c2]⟩ (tk0 + 1)] }, g, d, tk0 + 1 + 1, os⟩
    rw [size_n] at made ⊢
    refine got _ (tk0 + 1 + 1) (tk0) (tk0 + 1) ⟨⟨_, _, Heap.get?_push_of_some _ ((samep2.extBut _ _ ne_z_i2 (samep1.extBut _ _ ne_z_i1 at_z1))), own, twice2⟩, Heap.get?_push_of_some _ ((samep2.extBut _ _ ne_TI_i2 (samep1.extBut _ _ ne_TI_i1 src1))), ⟨_, _, Heap.get?_push_of_some _ ((samep2.extBut _ _ ne_TO_i2 (samep1.extBut _ _ ne_TO_i1 out1)))⟩, str_at ((new1).extBut samep2.extBut ne_i1_i2) fun o q => Heap.get?_push_of_some _ q, str_at (new2) fun o q => Heap.get?_push_of_some _ q⟩ made (by rw [Heap.size_push, size_n]) fun b o cz cT n1 n2 e => Heap.get?_push_of_some _ ((samep2.extBut _ _ n2 (samep1.extBut _ _ n1 (same1.extBut _ _ cz e))))
theorem side2_end (hh : A.handled = none) (apart : [z, TI, TO, i1, i2].Nodup) (S : Side2 s.heap z TI TO i1 i2 x1 x2 t1 t2 i) (h1 : x1.cps[i]? = none) {Q : Fin → Shared → Prop}
    (fin : ∀ h' e, (∀ b o, b ≠ z → b ≠ TO → b ≠ i1 → b ≠ i2 → s.heap.get? b = some o → h'.get? b = some o) → (∃ o, h'.get? e = some o ∧ o.cls = .type "StopIteration") → E (.ref e) { s with heap := h' }) :
    wpAny (model prog w) A (Builtin.«zip.__next__» ⟨[.ref z], []⟩) Q E s := by
  have ne_z_TI : z ≠ TI := by rintro rfl; simp at apart
  have ne_z_TO : z ≠ TO := by rintro rfl; simp at apart
  have ne_z_i1 : z ≠ i1 := by rintro rfl; simp at apart
  have ne_z_i2 : z ≠ i2 := by rintro rfl; simp at apart
  have ne_TI_TO : TI ≠ TO := by rintro rfl; simp at apart
  have ne_TI_i1 : TI ≠ i1 := by rintro rfl; simp at apart
  have ne_TI_i2 : TI ≠ i2 := by rintro rfl; simp at apart
  have ne_TO_i1 : TO ≠ i1 := by rintro rfl; simp at apart
  have ne_TO_i2 : TO ≠ i2 := by rintro rfl; simp at apart
  have ne_i1_i2 : i1 ≠ i2 := by rintro rfl; simp at apart
  obtain ⟨hp, g, d, tk0, os⟩ := s
  obtain ⟨⟨f0, b1, at_z, own, twice⟩, at_src, ⟨v1, v2, at_out⟩, d1, d2⟩ := S
  show wpAny _ _ (field (.ref z) 2 >>= _) _ _ _
  refine wpAny_bind (wpAny_field at_z rfl (x := .bool false) rfl ?_)
  show wpAny _ _ (field (.ref z) 3 >>= _) _ _ _
  refine wpAny_bind (wpAny_field at_z rfl (x := .ref TI) rfl (wpAny_bind (wpAny_seqItems at_src rfl ?_)))
  show wpAny _ _ (Builtin.SmallTypes.ownedTupleIsFree (.ref z) >>= _) _ _ _
  refine wpAny_bind (free_or_not at_z own twice fun b hx b2 at_z1 twice2 same1 => ?_)
  replace same1 : Heap.SameBut z hp hx := same1
  have e1 : hx.IsStrIter i1 "str_ascii_iterator" x1 t1 i := d1.extBut same1.extBut ne_z_i1.symm
  cases b with
  | true =>
    simp only [if_true]
    refine wpAny_bind (wpAny_rule (wpAny_bind (wpAny_field (s := ⟨hx, g, d, tk0, os⟩) at_z1 rfl (x := .ref TO) rfl (wpAny_bind (wpAny_setField_rec (s := ⟨hx, g, d, tk0, os⟩) at_z1 (by simp) fun j0 at_zj samej => ?_)))))
    replace at_zj : j0.get? z = some (zipObj .ellipsis b2 TI TO) := at_zj
    replace samej : Heap.SameBut z hx j0 := samej
    refine wpAny_bind ?_
    simp only [List.zipIdx_cons, List.zipIdx_nil, List.forIn_cons, List.forIn_nil]
    refine wpAny_bind (wpAny_bind (wpAny_onRaise ?_))
    show wpAny _ _ (Builtin.SmallTypes.nextOf (.ref i1) >>= _) _ _ ⟨j0, g, d, tk0, os⟩
    refine wpAny_bind (wpAny_nextOf_ascii_end (s := ⟨j0, g, d, tk0, os⟩) hh (e1.extBut samej.extBut ne_z_i1.symm) h1 fun p1 e samep ⟨oe, at_e, cls_e⟩ => ?_)
    replace samep : Heap.ExtBut i1 j0 p1 := samep
    have at_zp : p1.get? z = some (zipObj .ellipsis b2 TI TO) := samep _ _ ne_z_i1 at_zj
    have e_z : e ≠ z := fun q => by rw [q] at at_e; rw [at_zp] at at_e; cases at_e; simp at cls_e
    refine wpAny_setField_rec (s := ⟨p1, g, d, tk0, os⟩) at_zp (by simp) fun p2 _ same2 => ?_
    exact fin p2 e (fun b o cz _ n1 _ q => same2.extBut _ _ cz (samep _ _ n1 (samej.extBut _ _ cz (same1.extBut _ _ cz q)))) ⟨oe, same2.extBut _ _ e_z at_e, cls_e⟩
  | false =>
    simp only [Bool.false_eq_true, if_false]
    refine wpAny_bind ?_
    simp only [List.forIn_toArray, List.forIn_cons, List.forIn_nil]
    refine wpAny_bind (wpAny_bind (wpAny_holding ?_))
    show wpAny _ _ (Builtin.SmallTypes.nextOf (.ref i1) >>= _) _ _ ⟨hx, g, d, tk0, os⟩
    refine wpAny_bind (wpAny_nextOf_ascii_end (s := ⟨hx, g, d, tk0, os⟩) hh e1 h1 fun p1 e samep there => ?_)
    replace samep : Heap.ExtBut i1 hx p1 := samep
    exact fin p1 e (fun b o cz _ n1 _ q => samep _ _ n1 (same1.extBut _ _ cz q)) there
theorem next2_item (hh : A.handled = none) (apart : [z, TI, TO, i1, i2].Nodup) (S : Side2 s.heap z TI TO i1 i2 x1 x2 t1 t2 i) {c1 c2 : Nat} (h1 : x1.cps[i]? = some c1) (h2 : x2.cps[i]? = some c2) {Q : Option Value → Shared → Prop}
    (got : ∀ h' tk u1 u2, Side2 h' z TI TO i1 i2 x1 x2 t1 t2 (i + 1) → h'.get? s.heap.objs.size = some { cls := .type "tuple", data := .seq #[.str ⟨#[c1]⟩ u1, .str ⟨#[c2]⟩ u2] } → h'.objs.size = s.heap.objs.size + 1 →
      (∀ b o, b ≠ z → b ≠ TO → b ≠ i1 → b ≠ i2 → s.heap.get? b = some o → h'.get? b = some o) → Q (some (.ref s.heap.objs.size)) { s with heap := h', toks := tk }) :
    wpAny (model prog w) A (pyNext (.ref z)) Q E s := by
  obtain ⟨f0, b1, at_z, _⟩ := S.zip
  have isZip : s.TypeIs (.ref z) "zip" := ⟨_, at_z, rfl⟩
  unfold pyNext
  exact wpAny_bind (wpAny_attempt (wpAny_callSpecial?_slot (name := Str.ofString "__next__") isZip F.slot_zip_next (wpAny_call_entry F.slot_zip_next isZip F.entry_zip_next
    (side2_item (A := A.in1) (show A.in1.handled = none from hh) apart S h1 h2 fun h' tk u1 u2 q1 q2 q3 q4 => wpAny_pure (got h' tk u1 u2 q1 q2 q3 q4)) (F.args_zip_next_1 _))))
theorem next2_end (hh : A.handled = none) (apart : [z, TI, TO, i1, i2].Nodup) (S : Side2 s.heap z TI TO i1 i2 x1 x2 t1 t2 i) (h1 : x1.cps[i]? = none) {Q : Option Value → Shared → Prop}
    (fin : ∀ h', (∀ b o, b ≠ z → b ≠ TO → b ≠ i1 → b ≠ i2 → s.heap.get? b = some o → h'.get? b = some o) → Q none { s with heap := h' }) :
    wpAny (model prog w) A (pyNext (.ref z)) Q E s := by
  obtain ⟨f0, b1, at_z, _⟩ := S.zip
  have isZip : s.TypeIs (.ref z) "zip" := ⟨_, at_z, rfl⟩
  unfold pyNext
  refine wpAny_bind (wpAny_attempt (wpAny_callSpecial?_slot (name := Str.ofString "__next__") isZip F.slot_zip_next (wpAny_call_entry F.slot_zip_next isZip F.entry_zip_next
    (side2_end (A := A.in1) (show A.in1.handled = none from hh) apart S h1 fun h' e keep there => ?_) (F.args_zip_next_1 _))))
  obtain ⟨oe, at_e, cls_e⟩ := there
  exact wpAny_bind (wpAny_isInstance (T := "StopIteration") (b := true) ⟨oe, at_e, cls_e⟩ isSubtype_stop (wpAny_pure (fin h' keep)))
end
/-- 3 texts drawn side by side: the cells, at the turn i -/
structure Side3 (h : Heap) (z TI TO : Addr) (i1 i2 i3 : Addr) (x1 x2 x3 : Str) (t1 t2 t3 : Tok) (i : Nat) : Prop where
  zip : ∃ f0 b1, h.get? z = some (zipObj f0 b1 TI TO) ∧ Owned f0 ∧ Twice b1
  src : h.get? TI = some { cls := .type "tuple", data := .seq #[.ref i1, .ref i2, .ref i3] }
  out : ∃ v1 v2 v3, h.get? TO = some { cls := .type "tuple", data := .seq #[v1, v2, v3] }
  it1 : h.IsStrIter i1 "str_ascii_iterator" x1 t1 i
  it2 : h.IsStrIter i2 "str_ascii_iterator" x2 t2 i
  it3 : h.IsStrIter i3 "str_ascii_iterator" x3 t3 i
section
variable {prog : Program} {w : World} {A : Around} {E : Value → Shared → Prop} {s : Shared} {z TI TO i1 i2 i3 : Addr} {x1 x2 x3 : Str} {t1 t2 t3 : Tok} {i : Nat}
theorem side3_keep {h h' : Heap} (S : Side3 h z TI TO i1 i2 i3 x1 x2 x3 t1 t2 t3 i) (k : ∀ b ∈ [z, TI, TO, i1, i2, i3], ∀ o, h.get? b = some o → h'.get? b = some o) : Side3 h' z TI TO i1 i2 i3 x1 x2 x3 t1 t2 t3 i := by
  obtain ⟨⟨f0, b1, a1, a2, a3⟩, b, ⟨v1, v2, v3, c⟩, d1, d2, d3⟩ := S
  exact ⟨⟨f0, b1, k _ (by simp) _ a1, a2, a3⟩, k _ (by simp) _ b, ⟨v1, v2, v3, k _ (by simp) _ c⟩, str_at d1 fun o q => k _ (by simp) o q, str_at d2 fun o q => k _ (by simp) o q, str_at d3 fun o q => k _ (by simp) o q⟩
theorem side3_item (hh : A.handled = none) (apart : [z, TI, TO, i1, i2, i3].Nodup) (S : Side3 s.heap z TI TO i1 i2 i3 x1 x2 x3 t1 t2 t3 i) {c1 c2 c3 : Nat} (h1 : x1.cps[i]? = some c1) (h2 : x2.cps[i]? = some c2) (h3 : x3.cps[i]? = some c3) {Q : Value → Shared → Prop}
    (got : ∀ h' tk u1 u2 u3, Side3 h' z TI TO i1 i2 i3 x1 x2 x3 t1 t2 t3 (i + 1) → h'.get? s.heap.objs.size = some { cls := .type "tuple", data := .seq #[.str ⟨#[c1]⟩ u1, .str ⟨#[c2]⟩ u2, .str ⟨#[c3]⟩ u3] } → h'.objs.size = s.heap.objs.size + 1 →
      (∀ b o, b ≠ z → b ≠ TO → b ≠ i1 → b ≠ i2 → b ≠ i3 → s.heap.get? b = some o → h'.get? b = some o) → Q (.ref s.heap.objs.size) { s with heap := h', toks := tk }) :
    wpAny (model prog w) A (Builtin.«zip.__next__» ⟨[.ref z], []⟩) (fun fin s' => ∃ v, fin = .done (.ret v) ∧ Q v s') E s := by
  have ne_z_TI : z ≠ TI := by rintro rfl; simp at apart
  have ne_z_TO : z ≠ TO := by rintro rfl; simp at apart
  have ne_z_i1 : z ≠ i1 := by rintro rfl; simp at apart
  have ne_z_i2 : z ≠ i2 := by rintro rfl; simp at apart
  have ne_z_i3 : z ≠ i3 := by rintro rfl; simp at apart
  have ne_TI_TO : TI ≠ TO := by rintro rfl; simp at apart
  have ne_TI_i1 : TI ≠ i1 := by rintro rfl; simp at apart
  have ne_TI_i2 : TI ≠ i2 := by rintro rfl; simp at apart
  have ne_TI_i3 : TI ≠ i3 := by rintro rfl; simp at apart
  have ne_TO_i1 : TO ≠ i1 := by rintro rfl; simp at apart
  have ne_TO_i2 : TO ≠ i2 := by rintro rfl; simp at apart
  have ne_TO_i3 : TO ≠ i3 := by rintro rfl; simp at apart
  have ne_i1_i2 : i1 ≠ i2 := by rintro rfl; simp at apart
  have ne_i1_i3 : i1 ≠ i3 := by rintro rfl; simp at apart
  have ne_i2_i3 : i2 ≠ i3 := by rintro rfl; simp at apart
  obtain ⟨hp, g, d, tk0, os⟩ := s
  obtain ⟨⟨f0, b1, at_z, own, twice⟩, at_src, ⟨v1, v2, v3, at_out⟩, d1, d2, d3⟩ := S
  show wpAny _ _ (field (.ref z) 2 >>= _) _ _ _
  refine wpAny_bind (wpAny_field at_z rfl (x := .bool false) rfl ?_)
  show wpAny _ _ (field (.ref z) 3 >>= _) _ _ _
  refine wpAny_bind (wpAny_field at_z rfl (x := .ref TI) rfl (wpAny_bind (wpAny_seqItems at_src rfl ?_)))
  show wpAny _ _ (Builtin.SmallTypes.ownedTupleIsFree (.ref z) >>= _) _ _ _
  refine wpAny_bind (free_or_not at_z own twice fun b hx b2 at_z1 twice2 same1 => ?_)
  replace same1 : Heap.SameBut z hp hx := same1
  have out1 := same1.extBut _ _ ne_z_TO.symm at_out
  have src1 := same1.extBut _ _ ne_z_TI.symm at_src
  have e1 : hx.IsStrIter i1 "str_ascii_iterator" x1 t1 i := d1.extBut same1.extBut ne_z_i1.symm
  have e2 : hx.IsStrIter i2 "str_ascii_iterator" x2 t2 i := d2.extBut same1.extBut ne_z_i2.symm
  have e3 : hx.IsStrIter i3 "str_ascii_iterator" x3 t3 i := d3.extBut same1.extBut ne_z_i3.symm
  cases b with
  | true =>
    simp only [if_true]
    refine wpAny_bind (wpAny_rule (wpAny_bind (wpAny_field (s := ⟨hx, g, d, tk0, os⟩) at_z1 rfl (x := .ref TO) rfl (wpAny_bind (wpAny_setField_rec (s := ⟨hx, g, d, tk0, os⟩) at_z1 (by simp) fun j0 at_zj samej => ?_)))))
    replace at_zj : j0.get? z = some (zipObj .ellipsis b2 TI TO) := at_zj
    replace samej : Heap.SameBut z hx j0 := samej
    have out_0 := samej.extBut _ _ ne_z_TO.symm out1
    refine wpAny_bind ?_
    simp only [List.zipIdx_cons, List.zipIdx_nil, List.forIn_cons, List.forIn_nil]
    refine wpAny_bind (wpAny_bind (wpAny_onRaise ?_))
    show wpAny _ _ (Builtin.SmallTypes.nextOf (.ref i1) >>= _) _ _ ⟨j0, g, d, tk0, os⟩
    refine wpAny_bind (wpAny_nextOf_ascii_item (s := ⟨j0, g, d, tk0, os⟩) ((e1).extBut samej.extBut ne_z_i1.symm) h1 fun p1 new1 samep1 => wpAny_pure ?_)
    replace samep1 : Heap.SameBut i1 j0 p1 := samep1
    have mid1 := samep1.extBut _ _ ne_TO_i1 out_0
    refine wpAny_bind (wpAny_seqItems (s := ⟨p1, g, d, tk0 + 1, os⟩) mid1 rfl (wpAny_bind (wpAny_updateSeq (s := ⟨p1, g, d, tk0 + 1, os⟩) mid1 rfl ?_)))
    generalize eq1 : p1.update TO _ = j1
    have out_1 : j1.get? TO = some { cls := .type "tuple", data := .seq #[.str ⟨#[c1]⟩ (tk0), v2, v3] } := by
      rw [← eq1, Heap.get?_update_self _ mid1 rfl]
      simp [Obj.mapSeq]
    have sameo1 : Heap.SameBut TO p1 j1 := by rw [← eq1]; exact Heap.SameBut.update ..
    refine wpAny_bind (wpAny_letGo (wpAny_pure ?_))
    refine wpAny_bind (wpAny_bind (wpAny_onRaise ?_))
    show wpAny _ _ (Builtin.SmallTypes.nextOf (.ref i2) >>= _) _ _ ⟨j1, g, d, tk0 + 1, os⟩
    refine wpAny_bind (wpAny_nextOf_ascii_item (s := ⟨j1, g, d, tk0 + 1, os⟩) ((((e2).extBut samej.extBut ne_z_i2.symm).extBut samep1.extBut ne_i1_i2.symm).extBut sameo1.extBut ne_TO_i2.symm) h2 fun p2 new2 samep2 => wpAny_pure ?_)
    replace samep2 : Heap.SameBut i2 j1 p2 := samep2
    have mid2 := samep2.extBut _ _ ne_TO_i2 out_1
    refine wpAny_bind (wpAny_seqItems (s := ⟨p2, g, d, tk0 + 1 + 1, os⟩) mid2 rfl (wpAny_bind (wpAny_updateSeq (s := ⟨p2, g, d, tk0 + 1 + 1, os⟩) mid2 rfl ?_)))
    generalize eq2 : p2.update TO _ = j2
    have out_2 : j2.get? TO = some { cls := .type "tuple", data := .seq #[.str ⟨#[c1]⟩ (tk0), .str ⟨#[c2]⟩ (tk0 + 1), v3] } := by
      rw [← eq2, Heap.get?_update_self _ mid2 rfl]
      simp [Obj.mapSeq]
    have sameo2 : Heap.SameBut TO p2 j2 := by rw [← eq2]; exact Heap.SameBut.update ..
    refine wpAny_bind (wpAny_letGo (wpAny_pure ?_))
    refine wpAny_bind (wpAny_bind (wpAny_onRaise ?_))
    show wpAny _ _ (Builtin.SmallTypes.nextOf (.ref i3) >>= _) _ _ ⟨j2, g, d, tk0 + 1 + 1, os⟩
    refine wpAny_bind (wpAny_nextOf_ascii_item (s := ⟨j2, g, d, tk0 + 1 + 1, os⟩) ((((((e3).extBut samej.extBut ne_z_i3.symm).extBut samep1.extBut ne_i1_i3.symm).extBut sameo1.extBut ne_TO_i3.symm).extBut samep2.extBut ne_i2_i3.symm).extBut sameo2.extBut ne_TO_i3.symm) h3 fun p3 new3 samep3 => wpAny_pure ?_)
    replace samep3 : Heap.SameBut i3 j2 p3 := samep3
    have mid3 := samep3.extBut _ _ ne_TO_i3 out_2
    refine wpAny_bind (wpAny_seqItems (s := ⟨p3, g, d, tk0 + 1 + 1 + 1, os⟩) mid3 rfl (wpAny_bind (wpAny_updateSeq (s := ⟨p3, g, d, tk0 + 1 + 1 + 1, os⟩) mid3 rfl ?_)))
    generalize eq3 : p3.update TO _ = j3
    have out_3 : j3.get? TO = some { cls := .type "tuple", data := .seq #[.str ⟨#[c1]⟩ (tk0), .str ⟨#[c2]⟩ (tk0 + 1), .str ⟨#[c3]⟩ (tk0 + 1 + 1)] } := by
      rw [← eq3, Heap.get?_update_self _ mid3 rfl]
      simp [Obj.mapSeq]
    have sameo3 : Heap.SameBut TO p3 j3 := by rw [← eq3]; exact Heap.SameBut.update ..
    refine wpAny_bind (wpAny_letGo (wpAny_pure (wpAny_pure ?_)))
    refine wpAny_bind (wpAny_seqItems (s := ⟨j3, g, d, tk0 + 1 + 1 + 1, os⟩) out_3 rfl (wpAny_bind (wpAny_newTuple ?_)))
    have at_zn : j3.get? z = some (zipObj .ellipsis b2 TI TO) := (sameo3.extBut _ _ ne_z_TO (samep3.extBut _ _ ne_z_i3 (sameo2.extBut _ _ ne_z_TO (samep2.extBut _ _ ne_z_i2 (sameo1.extBut _ _ ne_z_TO (samep1.extBut _ _ ne_z_i1 at_zj))))))
    have size_n : j3.objs.size = hp.objs.size := by rw [sameo3.1, samep3.1, sameo2.1, samep2.1, sameo1.1, samep1.1, samej.1, same1.1]
    have lt_z : z < j3.objs.size := Heap.lt_size at_zn
    show wpAny _ _ (Builtin.SmallTypes.ownedTupleHandOut (.ref z) (.ref j3.objs.size) >>= _) _ _ ⟨j3.push { cls := .type "tuple", data := .seq #[.str ⟨#[c1]⟩ (tk0), .str ⟨#[c2]⟩ (tk0 + 1), .str ⟨#[c3]⟩ (tk0 + 1 + 1)] }, g, d, tk0 + 1 + 1 + 1, os⟩
    refine wpAny_bind ?_
    unfold Builtin.SmallTypes.ownedTupleHandOut
    have at_zt : (j3.push { cls := .type "tuple", data := .seq #[.str ⟨#[c1]⟩ (tk0), .str ⟨#[c2]⟩ (tk0 + 1), .str ⟨#[c3]⟩ (tk0 + 1 + 1)] }).get? z = some (zipObj .ellipsis b2 TI TO) := Heap.get?_push_of_some _ at_zn
    refine wpAny_bind (wpAny_setField_rec at_zt (by simp) fun m1 at_m1 same_m1 => ?_)
    replace at_m1 : m1.get? z = some (zipObj (rawInt j3.objs.size) b2 TI TO) := at_m1
    refine wpAny_setField_rec at_m1 (by simp) fun m2 at_m2 same_m2 => ?_
    replace at_m2 : m2.get? z = some (zipObj (rawInt j3.objs.size) (.bool false) TI TO) := at_m2
    replace same_m1 : Heap.SameBut z (j3.push { cls := .type "tuple", data := .seq #[.str ⟨#[c1]⟩ (tk0), .str ⟨#[c2]⟩ (tk0 + 1), .str ⟨#[c3]⟩ (tk0 + 1 + 1)] }) m1 := same_m1
    replace same_m2 : Heap.SameBut z m1 m2 := same_m2
    have up : ∀ b o, b ≠ z → j3.get? b = some o → m2.get? b = some o := fun b o c e => same_m2.extBut _ _ c (same_m1.extBut _ _ c (Heap.get?_push_of_some _ e))
    refine wpAny_pure ⟨_, rfl, ?_⟩
    have made := same_m2.extBut _ _ (Nat.ne_of_gt lt_z) (same_m1.extBut _ _ (Nat.ne_of_gt lt_z) (Heap.get?_push_size j3 (o := { cls := .type "tuple", data := .seq #[.str ⟨#[c1]⟩ (tk0), .str ⟨#[c2]⟩ (tk0 + 1), .str ⟨#[c3]⟩ (tk0 + 1 + 1)] }) rfl))
    have size_m : m2.objs.size = hp.objs.size + 1 := by rw [same_m2.1, same_m1.1, Heap.size_push, size_n]
    rw [size_n] at made
    show Q (.ref j3.objs.size) ⟨m2, g, d, tk0 + 1 + 1 + 1, os⟩
    rw [size_n]
    refine got m2 (tk0 + 1 + 1 + 1) (tk0) (tk0 + 1) (tk0 + 1 + 1) ⟨⟨_, _, at_m2, .inr ⟨_, rfl⟩, .inl rfl⟩, up _ _ ne_z_TI.symm ((sameo3.extBut _ _ ne_TI_TO (samep3.extBut _ _ ne_TI_i3 (sameo2.extBut _ _ ne_TI_TO (samep2.extBut _ _ ne_TI_i2 (sameo1.extBut _ _ ne_TI_TO (samep1.extBut _ _ ne_TI_i1 (samej.extBut _ _ ne_z_TI.symm src1)))))))), ⟨_, _, _, up _ _ ne_z_TO.symm out_3⟩, str_at ((((((new1).extBut sameo1.extBut ne_TO_i1.symm).extBut samep2.extBut ne_i1_i2).extBut sameo2.extBut ne_TO_i1.symm).extBut samep3.extBut ne_i1_i3).extBut sameo3.extBut ne_TO_i1.symm) fun o q => up _ o ne_z_i1.symm q, str_at ((((new2).extBut sameo2.extBut ne_TO_i2.symm).extBut samep3.extBut ne_i2_i3).extBut sameo3.extBut ne_TO_i2.symm) fun o q => up _ o ne_z_i2.symm q, str_at ((new3).extBut sameo3.extBut ne_TO_i3.symm) fun o q => up _ o ne_z_i3.symm q⟩ made size_m fun b o cz cT n1 n2 n3 e => up b o cz ((sameo3.extBut _ _ cT (samep3.extBut _ _ n3 (sameo2.extBut _ _ cT (samep2.extBut _ _ n2 (sameo1.extBut _ _ cT (samep1.extBut _ _ n1 (samej.extBut _ _ cz (same1.extBut _ _ cz e)))))))))
  | false =>
    simp only [Bool.false_eq_true, if_false]
    refine wpAny_bind ?_
    simp only [List.forIn_toArray, List.forIn_cons, List.forIn_nil]
    refine wpAny_bind (wpAny_bind (wpAny_holding ?_))
    show wpAny _ _ (Builtin.SmallTypes.nextOf (.ref i1) >>= _) _ _ ⟨hx, g, d, tk0, os⟩
    refine wpAny_bind (wpAny_nextOf_ascii_item (s := ⟨hx, g, d, tk0, os⟩) (e1) h1 fun p1 new1 samep1 => wpAny_pure (wpAny_pure ?_))
    replace samep1 : Heap.SameBut i1 hx p1 := samep1
    refine wpAny_bind (wpAny_bind (wpAny_holding ?_))
    show wpAny _ _ (Builtin.SmallTypes.nextOf (.ref i2) >>= _) _ _ ⟨p1, g, d, tk0 + 1, os⟩
    refine wpAny_bind (wpAny_nextOf_ascii_item (s := ⟨p1, g, d, tk0 + 1, os⟩) ((e2).extBut samep1.extBut ne_i1_i2.symm) h2 fun p2 new2 samep2 => wpAny_pure (wpAny_pure ?_))
    replace samep2 : Heap.SameBut i2 p1 p2 := samep2
    refine wpAny_bind (wpAny_bind (wpAny_holding ?_))
    show wpAny _ _ (Builtin.SmallTypes.nextOf (.ref i3) >>= _) _ _ ⟨p2, g, d, tk0 + 1 + 1, os⟩
    refine wpAny_bind (wpAny_nextOf_ascii_item (s := ⟨p2, g, d, tk0 + 1 + 1, os⟩) (((e3).extBut samep1.extBut ne_i1_i3.symm).extBut samep2.extBut ne_i2_i3.symm) h3 fun p3 new3 samep3 => wpAny_pure (wpAny_pure (wpAny_pure ?_)))
    replace samep3 : Heap.SameBut i3 p2 p3 := samep3
    have size_n : p3.objs.size = hp.objs.size := by rw [samep3.1, samep2.1, samep1.1, same1.1]
    refine wpAny_bind (wpAny_newTuple (hsz := by show 3 ≤ sizeLine; decide) (wpAny_pure ⟨_, rfl, ?_⟩))
    have made := Heap.get?_push_size p3 (o := { cls := .type "tuple", data := .seq #[.str ⟨#[c1]⟩ (tk0), .str ⟨#[c2]⟩ (tk0 + 1), .str ⟨#[c3]⟩ (tk0 + 1 + 1)] }) rfl
    show Q (.ref p3.objs.size) ⟨p3.push { cls := .type "tuple", data := .seq #[.str ⟨#[c1]⟩ (tk0), .str ⟨#[c2]⟩ (tk0 + 1), .str ⟨#[c3]⟩ (tk0 + 1 + 1)] }, g, d, tk0 + 1 + 1 + 1, os⟩
    rw [size_n] at made ⊢
    refine got _ (tk0 + 1 + 1 + 1) (tk0) (tk0 + 1) (tk0 + 1 + 1) ⟨⟨_, _, Heap.get?_push_of_some _ ((samep3.extBut _ _ ne_z_i3 (samep2.extBut _ _ ne_z_i2 (samep1.extBut _ _ ne_z_i1 at_z1)))), own, twice2⟩, Heap.get?_push_of_some _ ((samep3.extBut _ _ ne_TI_i3 (samep2.extBut _ _ ne_TI_i2 (samep1.extBut _ _ ne_TI_i1 src1)))), ⟨_, _, _, Heap.get?_push_of_some _ ((samep3.extBut _ _ ne_TO_i3 (samep2.extBut _ _ ne_TO_i2 (samep1.extBut _ _ ne_TO_i1 out1))))⟩, str_at (((new1).extBut samep2.extBut ne_i1_i2).extBut samep3.extBut ne_i1_i3) fun o q => Heap.get?_push_of_some _ q, str_at ((new2).extBut samep3.extBut ne_i2_i3) fun o q => Heap.get?_push_of_some _ q, str_at (new3) fun o q => Heap.get?_push_of_some _ q⟩ made (by rw [Heap.size_push, size_n]) fun b o cz cT n1 n2 n3 e => Heap.get?_push_of_some _ ((samep3.extBut _ _ n3 (samep2.extBut _ _ n2 (samep1.extBut _ _ n1 (same1.extBut _ _ cz e)))))
theorem side3_end (hh : A.handled = none) (apart : [z, TI, TO, i1, i2, i3].Nodup) (S : Side3 s.heap z TI TO i1 i2 i3 x1 x2 x3 t1 t2 t3 i) (h1 : x1.cps[i]? = none) {Q : Fin → Shared → Prop}
    (fin : ∀ h' e, (∀ b o, b ≠ z → b ≠ TO → b ≠ i1 → b ≠ i2 → b ≠ i3 → s.heap.get? b = some o → h'.get? b = some o) → (∃ o, h'.get? e = some o ∧ o.cls = .type "StopIteration") → E (.ref e) { s with heap := h' }) :
    wpAny (model prog w) A (Builtin.«zip.__next__» ⟨[.ref z], []⟩) Q E s := by
  have ne_z_TI : z ≠ TI := by rintro rfl; simp at apart
  have ne_z_TO : z ≠ TO := by rintro rfl; simp at apart
  have ne_z_i1 : z ≠ i1 := by rintro rfl; simp at apart
  have ne_z_i2 : z ≠ i2 := by rintro rfl; simp at apart
  have ne_z_i3 : z ≠ i3 := by rintro rfl; simp at apart
  have ne_TI_TO : TI ≠ TO := by rintro rfl; simp at apart
  have ne_TI_i1 : TI ≠ i1 := by rintro rfl; simp at apart
  have ne_TI_i2 : TI ≠ i2 := by rintro rfl; simp at apart
  have ne_TI_i3 : TI ≠ i3 := by rintro rfl; simp at apart
  have ne_TO_i1 : TO ≠ i1 := by rintro rfl; simp at apart
  have ne_TO_i2 : TO ≠ i2 := by rintro rfl; simp at apart
  have ne_TO_i3 : TO ≠ i3 := by rintro rfl; simp at apart
  have ne_i1_i2 : i1 ≠ i2 := by rintro rfl; simp at apart
  have ne_i1_i3 : i1 ≠ i3 := by rintro rfl; simp at apart
  have ne_i2_i3 : i2 ≠ i3 := by rintro rfl; simp at apart
  obtain ⟨hp, g, d, tk0, os⟩ := s
  obtain ⟨⟨f0, b1, at_z, own, twice⟩, at_src, ⟨v1, v2, v3, at_out⟩, d1, d2, d3⟩ := S
  show wpAny _ _ (field (.ref z) 2 >>= _) _ _ _
  refine wpAny_bind (wpAny_field at_z rfl (x := .bool false) rfl ?_)
  show wpAny _ _ (field (.ref z) 3 >>= _) _ _ _
  refine wpAny_bind (wpAny_field at_z rfl (x := .ref TI) rfl (wpAny_bind (wpAny_seqItems at_src rfl ?_)))
  show wpAny _ _ (Builtin.SmallTypes.ownedTupleIsFree (.ref z) >>= _) _ _ _
  refine wpAny_bind (free_or_not at_z own twice fun b hx b2 at_z1 twice2 same1 => ?_)
  replace same1 : Heap.SameBut z hp hx := same1
  have e1 : hx.IsStrIter i1 "str_ascii_iterator" x1 t1 i := d1.extBut same1.extBut ne_z_i1.symm
  cases b with
  | true =>
    simp only [if_true]
    refine wpAny_bind (wpAny_rule (wpAny_bind (wpAny_field (s := ⟨hx, g, d, tk0, os⟩) at_z1 rfl (x := .ref TO) rfl (wpAny_bind (wpAny_setField_rec (s := ⟨hx, g, d, tk0, os⟩) at_z1 (by simp) fun j0 at_zj samej => ?_)))))
    replace at_zj : j0.get? z = some (zipObj .ellipsis b2 TI TO) := at_zj
    replace samej : Heap.SameBut z hx j0 := samej
    refine wpAny_bind ?_
    simp only [List.zipIdx_cons, List.zipIdx_nil, List.forIn_cons, List.forIn_nil]
    refine wpAny_bind (wpAny_bind (wpAny_onRaise ?_))
    show wpAny _ _ (Builtin.SmallTypes.nextOf (.ref i1) >>= _) _ _ ⟨j0, g, d, tk0, os⟩
    refine wpAny_bind (wpAny_nextOf_ascii_end (s := ⟨j0, g, d, tk0, os⟩) hh (e1.extBut samej.extBut ne_z_i1.symm) h1 fun p1 e samep ⟨oe, at_e, cls_e⟩ => ?_)
    replace samep : Heap.ExtBut i1 j0 p1 := samep
    have at_zp : p1.get? z = some (zipObj .ellipsis b2 TI TO) := samep _ _ ne_z_i1 at_zj
    have e_z : e ≠ z := fun q => by rw [q] at at_e; rw [at_zp] at at_e; cases at_e; simp at cls_e
    refine wpAny_setField_rec (s := ⟨p1, g, d, tk0, os⟩) at_zp (by simp) fun p2 _ same2 => ?_
    exact fin p2 e (fun b o cz _ n1 _ _ q => same2.extBut _ _ cz (samep _ _ n1 (samej.extBut _ _ cz (same1.extBut _ _ cz q)))) ⟨oe, same2.extBut _ _ e_z at_e, cls_e⟩
  | false =>
    simp only [Bool.false_eq_true, if_false]
    refine wpAny_bind ?_
    simp only [List.forIn_toArray, List.forIn_cons, List.forIn_nil]
    refine wpAny_bind (wpAny_bind (wpAny_holding ?_))
    show wpAny _ _ (Builtin.SmallTypes.nextOf (.ref i1) >>= _) _ _ ⟨hx, g, d, tk0, os⟩
    refine wpAny_bind (wpAny_nextOf_ascii_end (s := ⟨hx, g, d, tk0, os⟩) hh e1 h1 fun p1 e samep there => ?_)
    replace samep : Heap.ExtBut i1 hx p1 := samep
    exact fin p1 e (fun b o cz _ n1 _ _ q => samep _ _ n1 (same1.extBut _ _ cz q)) there
theorem next3_item (hh : A.handled = none) (apart : [z, TI, TO, i1, i2, i3].Nodup) (S : Side3 s.heap z TI TO i1 i2 i3 x1 x2 x3 t1 t2 t3 i) {c1 c2 c3 : Nat} (h1 : x1.cps[i]? = some c1) (h2 : x2.cps[i]? = some c2) (h3 : x3.cps[i]? = some c3) {Q : Option Value → Shared → Prop}
    (got : ∀ h' tk u1 u2 u3, Side3 h' z TI TO i1 i2 i3 x1 x2 x3 t1 t2 t3 (i + 1) → h'.get? s.heap.objs.size = some { cls := .type "tuple", data := .seq #[.str ⟨#[c1]⟩ u1, .str ⟨#[c2]⟩ u2, .str ⟨#[c3]⟩ u3] } → h'.objs.size = s.heap.objs.size + 1 →
      (∀ b o, b ≠ z → b ≠ TO → b ≠ i1 → b ≠ i2 → b ≠ i3 → s.heap.get? b = some o → h'.get? b = some o) → Q (some (.ref s.heap.objs.size)) { s with heap := h', toks := tk }) :
    wpAny (model prog w) A (pyNext (.ref z)) Q E s := by
  obtain ⟨f0, b1, at_z, _⟩ := S.zip
  have isZip : s.TypeIs (.ref z) "zip" := ⟨_, at_z, rfl⟩
  unfold pyNext
  exact wpAny_bind (wpAny_attempt (wpAny_callSpecial?_slot (name := Str.ofString "__next__") isZip F.slot_zip_next (wpAny_call_entry F.slot_zip_next isZip F.entry_zip_next
    (side3_item (A := A.in1) (show A.in1.handled = none from hh) apart S h1 h2 h3 fun h' tk u1 u2 u3 q1 q2 q3 q4 => wpAny_pure (got h' tk u1 u2 u3 q1 q2 q3 q4)) (F.args_zip_next_1 _))))
theorem next3_end (hh : A.handled = none) (apart : [z, TI, TO, i1, i2, i3].Nodup) (S : Side3 s.heap z TI TO i1 i2 i3 x1 x2 x3 t1 t2 t3 i) (h1 : x1.cps[i]? = none) {Q : Option Value → Shared → Prop}
    (fin : ∀ h', (∀ b o, b ≠ z → b ≠ TO → b ≠ i1 → b ≠ i2 → b ≠ i3 → s.heap.get? b = some o → h'.get? b = some o) → Q none { s with heap := h' }) :
    wpAny (model prog w) A (pyNext (.ref z)) Q E s := by
  obtain ⟨f0, b1, at_z, _⟩ := S.zip
  have isZip : s.TypeIs (.ref z) "zip" := ⟨_, at_z, rfl⟩
  unfold pyNext
  refine wpAny_bind (wpAny_attempt (wpAny_callSpecial?_slot (name := Str.ofString "__next__") isZip F.slot_zip_next (wpAny_call_entry F.slot_zip_next isZip F.entry_zip_next
    (side3_end (A := A.in1) (show A.in1.handled = none from hh) apart S h1 fun h' e keep there => ?_) (F.args_zip_next_1 _))))
  obtain ⟨oe, at_e, cls_e⟩ := there
  exact wpAny_bind (wpAny_isInstance (T := "StopIteration") (b := true) ⟨oe, at_e, cls_e⟩ isSubtype_stop (wpAny_pure (fin h' keep)))
end
end Tv

namespace Tv
open PySem PySem.Spec PyProof.Rows L2
def signAt (i : Nat) (y : Str) : V := .str ⟨#[y.cps.getD i 0]⟩
/-- texts of m signs side by side, a new tuple of signs each turn -/
def Itn (ys : List Str) (m : Nat) : It :=
  ⟨fun i _ => i < m, fun i H v H' => ∃ T, v = .ref T ∧ H T = none ∧ H' = upd H T (.tup (ys.map (signAt i))), fun i _ => m ≤ i⟩
theorem sign_there {x : Str} {i : Nat} (h : i < x.cps.size) : x.cps[i]? = some (x.cps.getD i 0) := by
  rw [Array.getElem?_eq_getElem h, Array.getD_eq_getD_getElem?, Array.getElem?_eq_getElem h]
  rfl
theorem iter_self {prog : Program} {w : World} {A : Around} {E : Value → Shared → Prop} {s : Shared} {z TI TO : Addr} {f0 b1 : Value} {Q : Value → Shared → Prop}
    (at_z : s.heap.get? z = some (zipObj f0 b1 TI TO)) (h : Q (.ref z) s) : wpAny (model prog w) A (pyIter (.ref z)) Q E s := by
  have isZip : s.TypeIs (.ref z) "zip" := ⟨_, at_z, rfl⟩
  refine wpAny_pyIter_slot isZip F.slot_zip_iter (wpAny_call_entry F.slot_zip_iter isZip F.entry_zip_iter ?_ (F.args_zip_iter_1 _))
  show wpAny _ _ (ret (.ref z)) _ _ s
  exact wpAny_pure ⟨_, rfl, "zip", _, isZip, F.slot_zip_next.lookup, h⟩

section
variable {P : Program} {w : World} {A : Around} {E : Value → Shared → Prop} {s : Shared} {x1 : Str} {t1 : Tok}
abbrev laid1_1 (h : Heap) (x1 : Str) (t1 : Tok) : Heap := Heap.push h { cls := .type "str_ascii_iterator", data := .fields #[.str x1 t1, .int 0 0] }
abbrev laid1_2 (h : Heap) (x1 : Str) (t1 : Tok) : Heap := Heap.push (laid1_1 h x1 t1) { cls := .type "tuple", data := .seq #[.ref h.objs.size] }
abbrev laid1_3 (h : Heap) (x1 : Str) (t1 : Tok) : Heap := Heap.push (laid1_2 h x1 t1) { cls := .type "tuple", data := .seq #[.none] }
abbrev laid1_4 (h : Heap) (x1 : Str) (t1 : Tok) : Heap := Heap.push (laid1_3 h x1 t1) (zipObj .none (.bool false) (laid1_1 h x1 t1).objs.size (laid1_2 h x1 t1).objs.size)
theorem new1_meets : Meets (Builtin.«zip.__new__» ⟨[.type "zip", .str x1 t1], []⟩) (fun _ R s => x1.cps.all (· < 128) = true ∧ R (.ok (.ret (.ref (laid1_3 s.heap x1 t1).objs.size))) { s with heap := (laid1_4 s.heap x1 t1) }) :=
  .of_wp fun prog w A R s h => by
    obtain ⟨hp, g, d, tk, os⟩ := s
    obtain ⟨a1, h⟩ := h
    have is_zip := sub_zip
    wp_walk using wpAny_pyIter_ascii a1
    exact ⟨_, rfl, h⟩
theorem tcheck1 (v1 : Value) : checkTypeCall "zip" ⟨[v1], []⟩ = pure () := by kernel_rfl
theorem ncheck1 (v1 : Value) : checkBuiltinCall "zip.__new__" ⟨[.type "zip", v1], []⟩ = pure () := by kernel_rfl
theorem icheck1 (obj v1 : Value) : argsOk "object.__init__" ⟨[obj, v1], []⟩ := by unfold argsOk; kernel_rfl
theorem call_zip1 {N : Nat} (eN : s.heap.objs.size = N) (a1 : x1.cps.all (· < 128) = true) {Q : Value → Shared → Prop} (got : ∀ h', Side1 h' (N + 3) (N + 1) (N + 2) N x1 t1 0 → (∀ b o, s.heap.get? b = some o → h'.get? b = some o) → Q (.ref (N + 3)) { s with heap := h' }) :
    wpAny (model P w) A (call (.type "zip") [.str x1 t1]) Q E s := by
  refine callType_new F.called_zip (by decide) (tcheck1 _ ) (ncheck1 _ ) (fun obj => icheck1 obj _ ) F.entry_zip_new new1_meets ⟨a1, ?_⟩
  have size1 : (laid1_1 s.heap x1 t1).objs.size = N + 1 := by rw [Heap.size_push, eN]
  have size2 : (laid1_2 s.heap x1 t1).objs.size = N + 2 := by rw [Heap.size_push, size1]
  have size3 : (laid1_3 s.heap x1 t1).objs.size = N + 3 := by rw [Heap.size_push, size2]
  have size4 : (laid1_4 s.heap x1 t1).objs.size = N + 4 := by rw [Heap.size_push, size3]
  have at1 : (laid1_4 s.heap x1 t1).get? s.heap.objs.size = some _ := (Heap.get?_push_of_some _ (Heap.get?_push_of_some _ (Heap.get?_push_of_some _ (Heap.get?_push_size _ rfl))))
  rw [eN] at at1
  have at_src : (laid1_4 s.heap x1 t1).get? (laid1_1 s.heap x1 t1).objs.size = some _ := (Heap.get?_push_of_some _ (Heap.get?_push_of_some _ (Heap.get?_push_size _ rfl)))
  rw [size1] at at_src
  have at_out : (laid1_4 s.heap x1 t1).get? (laid1_2 s.heap x1 t1).objs.size = some _ := (Heap.get?_push_of_some _ (Heap.get?_push_size _ rfl))
  rw [size2] at at_out
  have at_z : (laid1_4 s.heap x1 t1).get? (laid1_3 s.heap x1 t1).objs.size = some _ := (Heap.get?_push_size _ rfl)
  rw [size3, size1, size2] at at_z
  have src' : (laid1_4 s.heap x1 t1).get? (N + 1) = some { cls := .type "tuple", data := .seq #[.ref N] } := by
    rw [at_src, eN]
  show _ ∧ _
  rw [size3]
  exact ⟨⟨_, at_z, rfl⟩, got _ ⟨⟨_, _, at_z, .inl rfl, .inl rfl⟩, src', ⟨_, at_out⟩, ⟨_, at1, rfl, rfl⟩⟩ fun b o e => (Heap.get?_push_of_some _ (Heap.get?_push_of_some _ (Heap.get?_push_of_some _ (Heap.get?_push_of_some _ e))))⟩
theorem turn_side1 {K : PySem.W.Frag} {nm : Str} {np : Pos} {m : Nat} {z TI TO i1 : Addr} (apart : [z, TI, TO, i1].Nodup) (l1 : x1.cps.size = m) :
    Turn P w K (.Name nm np) (Itn [x1] m) [z, TI, TO, i1] z (fun i h => Side1 h z TI TO i1 x1 t1 i) where
  mem := by simp
  obj := fun i h S b hb => by
    obtain ⟨⟨f0, b1, q1, _⟩, q2, ⟨_, q3⟩, ⟨o1, e1, _, d1⟩⟩ := S
    have where_ : b = z ∨ b = TI ∨ b = TO ∨ b = i1 := by simpa using hb
    rcases where_ with rfl | rfl | rfl | rfl
    · exact ⟨_, q1, fun v q => nomatch q⟩
    · exact ⟨_, q2, fun v q => nomatch q⟩
    · exact ⟨_, q3, fun v q => nomatch q⟩
    · exact ⟨o1, e1, fun v q => by rw [d1] at q; cases q⟩
  keep := fun i h h' S k => side1_keep S k
  item := by
    rintro X rfl rfl rfl calm i pins s σ H E I fp S lt
    have lt' : i < m := lt
    have c1 : x1.cps[i]? = some (x1.cps.getD i 0) := sign_there (by omega)
    have below : ∀ b ∈ [z, TI, TO, i1], b < s.heap.objs.size := fun b hb => by
      obtain ⟨⟨f0, b1, q1, _⟩, q2, ⟨_, q3⟩, ⟨o1, e1, _, d1⟩⟩ := S
      have where_ : b = z ∨ b = TI ∨ b = TO ∨ b = i1 := by simpa using hb
      rcases where_ with rfl | rfl | rfl | rfl
      · exact Heap.lt_size q1
      · exact Heap.lt_size q2
      · exact Heap.lt_size q3
      · exact Heap.lt_size e1
    refine next1_item (I.ok.hd calm) apart S c1 fun h' tk u1 S' made size_ keep => ?_
    have new : ObjOk X.prog X.w (upd H s.heap.objs.size (.tup ([x1].map (signAt i)))) h' s.heap.objs.size (.tup ([x1].map (signAt i))) :=
      ⟨by show 1 ≤ sizeLine; decide, _, .cons ⟨_, rfl⟩ .nil, ⟨_, made, rfl, _, rfl⟩⟩
    have J := I.turnedNew (t' := tk) (ch := [z, TI, TO, i1]) (fun b o nb q => keep b o (fun e => nb (by simp [e])) (fun e => nb (by simp [e])) (fun e => nb (by simp [e])) q) fp (Nat.le_refl _) new
    refine ⟨.ref s.heap.objs.size, rfl, wpAny_pure ⟨.ref s.heap.objs.size, _, J, rfl, ⟨_, rfl, I.hok.fresh (Nat.le_refl _), rfl⟩, S', fun b hb => ?_⟩⟩
    rw [upd_ne (Nat.ne_of_lt (below b hb))]
    exact (fp b hb).1
  done := by
    rintro X rfl rfl rfl calm i pins s σ H E I fp S stop
    have stop' : m ≤ i := stop
    have c1 : x1.cps[i]? = none := Array.getElem?_eq_none (by omega)
    exact next1_end (I.ok.hd calm) apart S c1 fun h' keep => ⟨rfl, I.turnedL (t' := s.toks) (ch := [z, TI, TO, i1]) (fun b o nb q => keep b o (fun e => nb (by simp [e])) (fun e => nb (by simp [e])) (fun e => nb (by simp [e])) q) fp⟩
  self := fun A i s Q E S h => by
    obtain ⟨f0, b1, at_z, _⟩ := S.zip
    exact iter_self at_z h
end
section
variable {P : Program} {w : World} {A : Around} {E : Value → Shared → Prop} {s : Shared} {x1 x2 : Str} {t1 t2 : Tok}
theorem call_zip2 {N : Nat} (eN : s.heap.objs.size = N) (a1 : x1.cps.all (· < 128) = true) (a2 : x2.cps.all (· < 128) = true) {Q : Value → Shared → Prop} (got : ∀ h', Side2 h' (N + 4) (N + 2) (N + 3) N (N + 1) x1 x2 t1 t2 0 → (∀ b o, s.heap.get? b = some o → h'.get? b = some o) → Q (.ref (N + 4)) { s with heap := h' }) :
    wpAny (model P w) A (call (.type "zip") [.str x1 t1, .str x2 t2]) Q E s := by
  subst eN
  have ty1 : strIterType x1 = "str_ascii_iterator" := by simp [strIterType, a1]
  have ty2 : strIterType x2 = "str_ascii_iterator" := by simp [strIterType, a2]
  refine zip_begins2 (begins_text x1 t1) (begins_text x2 t2) trivial trivial fun h' q1 q2 q3 w1 w2 _ keep => got h' ⟨⟨_, _, q1, .inl rfl, .inl rfl⟩, q2, ⟨_, _, q3⟩, ⟨_, w1, congrArg Value.type ty1, rfl⟩, ⟨_, w2, congrArg Value.type ty2, rfl⟩⟩ keep
theorem turn_side2 {K : PySem.W.Frag} {nm : Str} {np : Pos} {m : Nat} {z TI TO i1 i2 : Addr} (apart : [z, TI, TO, i1, i2].Nodup) (l1 : x1.cps.size = m) (l2 : x2.cps.size = m) :
    Turn P w K (.Name nm np) (Itn [x1, x2] m) [z, TI, TO, i1, i2] z (fun i h => Side2 h z TI TO i1 i2 x1 x2 t1 t2 i) where
  mem := by simp
  obj := fun i h S b hb => by
    obtain ⟨⟨f0, b1, q1, _⟩, q2, ⟨_, _, q3⟩, ⟨o1, e1, _, d1⟩, ⟨o2, e2, _, d2⟩⟩ := S
    have where_ : b = z ∨ b = TI ∨ b = TO ∨ b = i1 ∨ b = i2 := by simpa using hb
    rcases where_ with rfl | rfl | rfl | rfl | rfl
    · exact ⟨_, q1, fun v q => nomatch q⟩
    · exact ⟨_, q2, fun v q => nomatch q⟩
    · exact ⟨_, q3, fun v q => nomatch q⟩
    · exact ⟨o1, e1, fun v q => by rw [d1] at q; cases q⟩
    · exact ⟨o2, e2, fun v q => by rw [d2] at q; cases q⟩
  keep := fun i h h' S k => side2_keep S k
  item := by
    rintro X rfl rfl rfl calm i pins s σ H E I fp S lt
    have lt' : i < m := lt
    have c1 : x1.cps[i]? = some (x1.cps.getD i 0) := sign_there (by omega)
    have c2 : x2.cps[i]? = some (x2.cps.getD i 0) := sign_there (by omega)
    have below : ∀ b ∈ [z, TI, TO, i1, i2], b < s.heap.objs.size := fun b hb => by
      obtain ⟨⟨f0, b1, q1, _⟩, q2, ⟨_, _, q3⟩, ⟨o1, e1, _, d1⟩, ⟨o2, e2, _, d2⟩⟩ := S
      have where_ : b = z ∨ b = TI ∨ b = TO ∨ b = i1 ∨ b = i2 := by simpa using hb
      rcases where_ with rfl | rfl | rfl | rfl | rfl
      · exact Heap.lt_size q1
      · exact Heap.lt_size q2
      · exact Heap.lt_size q3
      · exact Heap.lt_size e1
      · exact Heap.lt_size e2
    refine next2_item (I.ok.hd calm) apart S c1 c2 fun h' tk u1 u2 S' made size_ keep => ?_
    have new : ObjOk X.prog X.w (upd H s.heap.objs.size (.tup ([x1, x2].map (signAt i)))) h' s.heap.objs.size (.tup ([x1, x2].map (signAt i))) :=
      ⟨by show 2 ≤ sizeLine; decide, _, .cons ⟨_, rfl⟩ (.cons ⟨_, rfl⟩ .nil), ⟨_, made, rfl, _, rfl⟩⟩
    have J := I.turnedNew (t' := tk) (ch := [z, TI, TO, i1, i2]) (fun b o nb q => keep b o (fun e => nb (by simp [e])) (fun e => nb (by simp [e])) (fun e => nb (by simp [e])) (fun e => nb (by simp [e])) q) fp (Nat.le_refl _) new
    refine ⟨.ref s.heap.objs.size, rfl, wpAny_pure ⟨.ref s.heap.objs.size, _, J, rfl, ⟨_, rfl, I.hok.fresh (Nat.le_refl _), rfl⟩, S', fun b hb => ?_⟩⟩
    rw [upd_ne (Nat.ne_of_lt (below b hb))]
    exact (fp b hb).1
  done := by
    rintro X rfl rfl rfl calm i pins s σ H E I fp S stop
    have stop' : m ≤ i := stop
    have c1 : x1.cps[i]? = none := Array.getElem?_eq_none (by omega)
    exact next2_end (I.ok.hd calm) apart S c1 fun h' keep => ⟨rfl, I.turnedL (t' := s.toks) (ch := [z, TI, TO, i1, i2]) (fun b o nb q => keep b o (fun e => nb (by simp [e])) (fun e => nb (by simp [e])) (fun e => nb (by simp [e])) (fun e => nb (by simp [e])) q) fp⟩
  self := fun A i s Q E S h => by
    obtain ⟨f0, b1, at_z, _⟩ := S.zip
    exact iter_self at_z h
end
section
variable {P : Program} {w : World} {A : Around} {E : Value → Shared → Prop} {s : Shared} {x1 x2 x3 : Str} {t1 t2 t3 : Tok}
theorem call_zip3 {N : Nat} (eN : s.heap.objs.size = N) (a1 : x1.cps.all (· < 128) = true) (a2 : x2.cps.all (· < 128) = true) (a3 : x3.cps.all (· < 128) = true) {Q : Value → Shared → Prop} (got : ∀ h', Side3 h' (N + 5) (N + 3) (N + 4) N (N + 1) (N + 2) x1 x2 x3 t1 t2 t3 0 → (∀ b o, s.heap.get? b = some o → h'.get? b = some o) → Q (.ref (N + 5)) { s with heap := h' }) :
    wpAny (model P w) A (call (.type "zip") [.str x1 t1, .str x2 t2, .str x3 t3]) Q E s := by
  subst eN
  have ty1 : strIterType x1 = "str_ascii_iterator" := by simp [strIterType, a1]
  have ty2 : strIterType x2 = "str_ascii_iterator" := by simp [strIterType, a2]
  have ty3 : strIterType x3 = "str_ascii_iterator" := by simp [strIterType, a3]
  refine zip_begins3 (begins_text x1 t1) (begins_text x2 t2) (begins_text x3 t3) trivial trivial trivial fun h' q1 q2 q3 w1 w2 w3 _ keep => got h' ⟨⟨_, _, q1, .inl rfl, .inl rfl⟩, q2, ⟨_, _, _, q3⟩, ⟨_, w1, congrArg Value.type ty1, rfl⟩, ⟨_, w2, congrArg Value.type ty2, rfl⟩, ⟨_, w3, congrArg Value.type ty3, rfl⟩⟩ keep
theorem turn_side3 {K : PySem.W.Frag} {nm : Str} {np : Pos} {m : Nat} {z TI TO i1 i2 i3 : Addr} (apart : [z, TI, TO, i1, i2, i3].Nodup) (l1 : x1.cps.size = m) (l2 : x2.cps.size = m) (l3 : x3.cps.size = m) :
    Turn P w K (.Name nm np) (Itn [x1, x2, x3] m) [z, TI, TO, i1, i2, i3] z (fun i h => Side3 h z TI TO i1 i2 i3 x1 x2 x3 t1 t2 t3 i) where
  mem := by simp
  obj := fun i h S b hb => by
    obtain ⟨⟨f0, b1, q1, _⟩, q2, ⟨_, _, _, q3⟩, ⟨o1, e1, _, d1⟩, ⟨o2, e2, _, d2⟩, ⟨o3, e3, _, d3⟩⟩ := S
    have where_ : b = z ∨ b = TI ∨ b = TO ∨ b = i1 ∨ b = i2 ∨ b = i3 := by simpa using hb
    rcases where_ with rfl | rfl | rfl | rfl | rfl | rfl
    · exact ⟨_, q1, fun v q => nomatch q⟩
    · exact ⟨_, q2, fun v q => nomatch q⟩
    · exact ⟨_, q3, fun v q => nomatch q⟩
    · exact ⟨o1, e1, fun v q => by rw [d1] at q; cases q⟩
    · exact ⟨o2, e2, fun v q => by rw [d2] at q; cases q⟩
    · exact ⟨o3, e3, fun v q => by rw [d3] at q; cases q⟩
  keep := fun i h h' S k => side3_keep S k
  item := by
    rintro X rfl rfl rfl calm i pins s σ H E I fp S lt
    have lt' : i < m := lt
    have c1 : x1.cps[i]? = some (x1.cps.getD i 0) := sign_there (by omega)
    have c2 : x2.cps[i]? = some (x2.cps.getD i 0) := sign_there (by omega)
    have c3 : x3.cps[i]? = some (x3.cps.getD i 0) := sign_there (by omega)
    have below : ∀ b ∈ [z, TI, TO, i1, i2, i3], b < s.heap.objs.size := fun b hb => by
      obtain ⟨⟨f0, b1, q1, _⟩, q2, ⟨_, _, _, q3⟩, ⟨o1, e1, _, d1⟩, ⟨o2, e2, _, d2⟩, ⟨o3, e3, _, d3⟩⟩ := S
      have where_ : b = z ∨ b = TI ∨ b = TO ∨ b = i1 ∨ b = i2 ∨ b = i3 := by simpa using hb
      rcases where_ with rfl | rfl | rfl | rfl | rfl | rfl
      · exact Heap.lt_size q1
      · exact Heap.lt_size q2
      · exact Heap.lt_size q3
      · exact Heap.lt_size e1
      · exact Heap.lt_size e2
      · exact Heap.lt_size e3
    refine next3_item (I.ok.hd calm) apart S c1 c2 c3 fun h' tk u1 u2 u3 S' made size_ keep => ?_
    have new : ObjOk X.prog X.w (upd H s.heap.objs.size (.tup ([x1, x2, x3].map (signAt i)))) h' s.heap.objs.size (.tup ([x1, x2, x3].map (signAt i))) :=
      ⟨by show 3 ≤ sizeLine; decide, _, .cons ⟨_, rfl⟩ (.cons ⟨_, rfl⟩ (.cons ⟨_, rfl⟩ .nil)), ⟨_, made, rfl, _, rfl⟩⟩
    have J := I.turnedNew (t' := tk) (ch := [z, TI, TO, i1, i2, i3]) (fun b o nb q => keep b o (fun e => nb (by simp [e])) (fun e => nb (by simp [e])) (fun e => nb (by simp [e])) (fun e => nb (by simp [e])) (fun e => nb (by simp [e])) q) fp (Nat.le_refl _) new
    refine ⟨.ref s.heap.objs.size, rfl, wpAny_pure ⟨.ref s.heap.objs.size, _, J, rfl, ⟨_, rfl, I.hok.fresh (Nat.le_refl _), rfl⟩, S', fun b hb => ?_⟩⟩
    rw [upd_ne (Nat.ne_of_lt (below b hb))]
    exact (fp b hb).1
  done := by
    rintro X rfl rfl rfl calm i pins s σ H E I fp S stop
    have stop' : m ≤ i := stop
    have c1 : x1.cps[i]? = none := Array.getElem?_eq_none (by omega)
    exact next3_end (I.ok.hd calm) apart S c1 fun h' keep => ⟨rfl, I.turnedL (t' := s.toks) (ch := [z, TI, TO, i1, i2, i3]) (fun b o nb q => keep b o (fun e => nb (by simp [e])) (fun e => nb (by simp [e])) (fun e => nb (by simp [e])) (fun e => nb (by simp [e])) (fun e => nb (by simp [e])) q) fp⟩
  self := fun A i s Q E S h => by
    obtain ⟨f0, b1, at_z, _⟩ := S.zip
    exact iter_self at_z h
end

def iZips (K : PySem.W.Frag) (te : TE) : TI := fun σ H R => te σ H fun v H1 => ∃ (a : Addr) (ys : List Str) (m : Nat), v = .ref a ∧ SqT K H1 a (ys.map V.str) ∧ 1 ≤ ys.length ∧ ys.length ≤ 3 ∧
  (∀ y ∈ ys, y.cps.size = m ∧ y.cps.all (· < 128) = true) ∧ R (Itn ys m) H1
theorem pi_zips {X : Cx} {e : Expr} {te : TE} {p sp pos np : Pos} {nm : Str} (hg : Gl X "zip") (hm : X.mg "zip" = none) (he : PE X e te)
    (one : starEach [.Starred e sp] X.env = [(true, eval e X.env)] := by rfl) :
    PI X (.Name nm np) (.Call (.Name "zip" p) [.Starred e sp] [] pos) (iZips X.K te) := by
  refine ⟨fun pins s σ H R I h => ?_⟩
  refine Call_ (ld_blt I hg hm PyProof.Rows.boot_zip ?_)
  rw [one]
  refine PySem.W.ks_call (P := fun _ => True) rfl (fun _ _ => ⟨.machine, .inr (.inl rfl), .now⟩) (PySem.W.ks_lone (thn (he.run pins s σ H _ I h) fun u s1 ⟨v, H1, I1, rv, q⟩ => ?_))
  obtain ⟨a, ys, m, rfl, hT, n1, n3, same, q⟩ := q
  cases rv
  obtain ⟨its, vals, ⟨⟨cls, dd, dat, sl⟩, at_a, hc, n, hd⟩, hz⟩ := I1.tuple hT
  simp only at hc hd
  subst hc hd
  have isT : s1.TypeIs (.ref a) "tuple" := ⟨_, at_a, rfl⟩
  refine wpAny_bind (wpAny_specialOf isT F.slot_tuple_iter.lookup (wpAny_pure ⟨rfl, ?_⟩))
  refine wpAny_collect_seq a (.inr rfl) at_a rfl rfl (fun h' keep => ⟨True.intro, ?_⟩) (by rw [List.size_toArray, ← vals.length]; exact hz)
  have I2 : Inv X pins σ H1 { s1 with heap := h' } := I1.kept (t' := s1.toks) keep
  have fresh_fp : ∀ {h2 : Heap} {L : List Addr}, (∀ b ∈ L, h'.objs.size ≤ b) → (∀ b o, h'.get? b = some o → h2.get? b = some o) → ∀ b ∈ L, FpOk X pins H1 b := fun {h2 L} below k b hb =>
    I2.fpOk (below b hb) (I2.hok.fresh (below b hb))

  -- 1
  have case1 : ∀ {y1 : Str} {us : List Value}, Vals ([y1].map V.str) us → (y1.cps.size = m ∧ y1.cps.all (· < 128) = true) → R (Itn [y1] m) H1 → wpAny (model X.prog X.w) X.A (call (.type "zip") us) (fun v s2 => wpAny (model X.prog X.w) X.A (pyIter v) (PIE X pins σ (.Name nm np) R) X.xe s2) X.xe { s1 with heap := h' } := by
    intro y1 us vs g1 q
    obtain _ | ⟨⟨t1, rfl⟩, vs1⟩ := vs
    cases vs1
    refine call_zip1 rfl g1.2 fun h2 S k => ?_
    obtain ⟨f0, b1, at_z, _⟩ := S.zip
    refine iter_self (s := { s1 with heap := h2 }) at_z ?_
    have I3 : Inv X pins σ H1 { s1 with heap := h2 } := I2.kept (t' := s1.toks) k
    exact ⟨_, _, _, _, H1, rfl, I3, turn_side1 (by simp) g1.1, S, fresh_fp (h2 := h2) (by simp) k, q⟩
  -- 2
  have case2 : ∀ {y1 y2 : Str} {us : List Value}, Vals ([y1, y2].map V.str) us → (y1.cps.size = m ∧ y1.cps.all (· < 128) = true) → (y2.cps.size = m ∧ y2.cps.all (· < 128) = true) → R (Itn [y1, y2] m) H1 → wpAny (model X.prog X.w) X.A (call (.type "zip") us) (fun v s2 => wpAny (model X.prog X.w) X.A (pyIter v) (PIE X pins σ (.Name nm np) R) X.xe s2) X.xe { s1 with heap := h' } := by
    intro y1 y2 us vs g1 g2 q
    obtain _ | ⟨⟨t1, rfl⟩, vs1⟩ := vs
    obtain _ | ⟨⟨t2, rfl⟩, vs2⟩ := vs1
    cases vs2
    refine call_zip2 rfl g1.2 g2.2 fun h2 S k => ?_
    obtain ⟨f0, b1, at_z, _⟩ := S.zip
    refine iter_self (s := { s1 with heap := h2 }) at_z ?_
    have I3 : Inv X pins σ H1 { s1 with heap := h2 } := I2.kept (t' := s1.toks) k
    exact ⟨_, _, _, _, H1, rfl, I3, turn_side2 (by simp) g1.1 g2.1, S, fresh_fp (h2 := h2) (by simp) k, q⟩
  -- 3
  have case3 : ∀ {y1 y2 y3 : Str} {us : List Value}, Vals ([y1, y2, y3].map V.str) us → (y1.cps.size = m ∧ y1.cps.all (· < 128) = true) → (y2.cps.size = m ∧ y2.cps.all (· < 128) = true) → (y3.cps.size = m ∧ y3.cps.all (· < 128) = true) → R (Itn [y1, y2, y3] m) H1 → wpAny (model X.prog X.w) X.A (call (.type "zip") us) (fun v s2 => wpAny (model X.prog X.w) X.A (pyIter v) (PIE X pins σ (.Name nm np) R) X.xe s2) X.xe { s1 with heap := h' } := by
    intro y1 y2 y3 us vs g1 g2 g3 q
    obtain _ | ⟨⟨t1, rfl⟩, vs1⟩ := vs
    obtain _ | ⟨⟨t2, rfl⟩, vs2⟩ := vs1
    obtain _ | ⟨⟨t3, rfl⟩, vs3⟩ := vs2
    cases vs3
    refine call_zip3 rfl g1.2 g2.2 g3.2 fun h2 S k => ?_
    obtain ⟨f0, b1, at_z, _⟩ := S.zip
    refine iter_self (s := { s1 with heap := h2 }) at_z ?_
    have I3 : Inv X pins σ H1 { s1 with heap := h2 } := I2.kept (t' := s1.toks) k
    exact ⟨_, _, _, _, H1, rfl, I3, turn_side3 (by simp) g1.1 g2.1 g3.1, S, fresh_fp (h2 := h2) (by simp) k, q⟩
  rcases ys with _ | ⟨y1, _ | ⟨y2, _ | ⟨y3, _ | ⟨y4, r⟩⟩⟩⟩
  · exact absurd n1 (by decide)
  · exact case1 vals (same y1 (by simp)) q
  · exact case2 vals (same y1 (by simp)) (same y2 (by simp)) q
  · exact case3 vals (same y1 (by simp)) (same y2 (by simp)) (same y3 (by simp)) q
  · exact absurd n3 (by simp)
end Tv

namespace Tv
open PySem PySem.Spec PyProof.Rows L2

/-! ### tables as lists of digits -/
def tab (ds : List Nat) : Str := ⟨(ds.map (48 + ·)).toArray⟩
theorem tab_len (ds : List Nat) : (tab ds).length = ds.length := by
  show (ds.map (48 + ·)).toArray.size = _
  simp
theorem tab_cps (ds : List Nat) : (tab ds).cps.toList = ds.map (48 + ·) := by simp [tab]
theorem tab_size (ds : List Nat) : (tab ds).cps.size = ds.length := by simp [tab]
structure IsTab (ds : List Nat) (n : Nat) : Prop where
  n1 : 1 ≤ n
  n3 : n ≤ 3
  len : ds.length = 3 ^ n
  dig : ∀ d ∈ ds, d < 3
theorem IsTab.cases {ds : List Nat} {n : Nat} (T : IsTab ds n) : (n = 1 ∧ ds.length = 3) ∨ (n = 2 ∧ ds.length = 9) ∨ (n = 3 ∧ ds.length = 27) := by
  have := T.n1
  have := T.n3
  have e := T.len
  have h : n = 1 ∨ n = 2 ∨ n = 3 := by omega
  rcases h with rfl | rfl | rfl
  · exact Or.inl ⟨rfl, e⟩
  · exact Or.inr (Or.inl ⟨rfl, e⟩)
  · exact Or.inr (Or.inr ⟨rfl, e⟩)
theorem IsTab.small {ds : List Nat} {n : Nat} (T : IsTab ds n) : ds.length ≤ 27 := by
  rcases T.cases with ⟨_, e⟩ | ⟨_, e⟩ | ⟨_, e⟩ <;> omega
theorem IsTab.size {ds : List Nat} {n : Nat} (T : IsTab ds n) : (tab ds).length ≤ sizeLine := by
  rw [tab_len]
  exact Nat.le_trans T.small (by decide)
/-- numbers as values -/
def iv (as : List Nat) : List V := as.map fun (a : Nat) => V.int (a : Int)
theorem iv_at {as : List Nat} {i : Nat} {x : V} (h : (iv as)[i]? = some x) : ∃ a : Nat, as[i]? = some a ∧ x = .int (a : Int) := by
  unfold iv at h
  rw [List.getElem?_map] at h
  cases e : as[i]? with
  | none => rw [e] at h; cases h
  | some a => rw [e] at h; exact ⟨a, rfl, (Option.some.inj h).symm⟩
theorem iv_len (as : List Nat) : (iv as).length = as.length := by simp [iv]
theorem iv_get {as : List Nat} {i a : Nat} (h : as[i]? = some a) : (iv as)[i]? = some (.int (a : Int)) := by
  unfold iv
  rw [List.getElem?_map, h]
  rfl
/-- the number that arguments write with base 3 -/
def num (as : List Nat) : Nat := as.foldl (fun at_ x => 3 * at_ + x) 0
theorem num_snoc (as : List Nat) (x : Nat) : num (as ++ [x]) = 3 * num as + x := by simp [num]
theorem num_lt : ∀ (n : Nat) (as : List Nat), as.length = n → (∀ a ∈ as, a < 3) → num as < 3 ^ n
  | 0, as, h, _ => by
    obtain rfl := List.eq_nil_of_length_eq_zero h
    decide
  | n + 1, as, h, hd => by
    have ne : as ≠ [] := fun e => by rw [e] at h; cases h
    have e := List.dropLast_concat_getLast ne
    rw [← e, num_snoc]
    have ih := num_lt n as.dropLast (by rw [List.length_dropLast]; omega) fun a ha => hd a (List.dropLast_subset _ ha)
    have l := hd _ (List.getLast_mem ne)
    rw [Nat.pow_succ]
    omega
/-- all arguments for n places, in their order -/
def tups : Nat → List (List Nat)
  | 0 => [[]]
  | n + 1 => (tups n).flatMap fun r => [r ++ [0], r ++ [1], r ++ [2]]
theorem tups_ok : ∀ n, n ≤ 3 → (tups n).length = 3 ^ n ∧ ∀ i, i < (tups n).length → num ((tups n).getD i []) = i ∧ ((tups n).getD i []).length = n ∧ ((tups n).getD i []).all (· < 3) = true := by decide
/-- the value at some arguments -/
def val (ds as : List Nat) : Nat := ds.getD (num as) 0
theorem IsTab.at {ds as : List Nat} {n : Nat} (T : IsTab ds n) (h : as.length = n) (hd : ∀ a ∈ as, a < 3) : ds[num as]? = some (val ds as) ∧ val ds as < 3 := by
  have l := num_lt n as h hd
  rw [← T.len] at l
  have e : ds[num as]? = some ds[num as] := List.getElem?_eq_getElem l
  have e2 : val ds as = ds[num as] := by
    unfold val
    rw [List.getD_eq_getElem?_getD, e]
    rfl
  refine ⟨by rw [e, e2], ?_⟩
  rw [e2]
  exact T.dig _ (List.getElem_mem l)
theorem int_digit : ∀ d : Nat, d < 3 → PySem.intText? ⟨#[48 + d]⟩ = some (d : Int) := by
  intro d h
  have : d = 0 ∨ d = 1 ∨ d = 2 := by omega
  rcases this with rfl | rfl | rfl <;> decide +kernel
theorem str_digit : ∀ d : Nat, d < 3 → (toString (d : Int) : Str) = ⟨#[48 + d]⟩ := by
  intro d h
  have : d = 0 ∨ d = 1 ∨ d = 2 := by omega
  rcases this with rfl | rfl | rfl <;> decide +kernel

theorem yes_go {σ : L2.St} {H : Hp} {A B : Hp → Prop} (h : A H) : tYes σ H fun b H3 => if b = true then A H3 else B H3 := by
  show (if true = true then A H else B H)
  rw [if_pos rfl]
  exact h
theorem tab_sign {ds : List Nat} {n i c : Nat} (T : IsTab ds n) (h : (tab ds).cps[i]? = some c) : ∃ d, ds[i]? = some d ∧ d < 3 ∧ c = 48 + d := by
  rw [← Array.getElem?_toList, tab_cps, List.getElem?_map] at h
  cases e : ds[i]? with
  | none => rw [e] at h; cases h
  | some d => rw [e] at h; exact ⟨d, rfl, T.dig d (List.mem_of_getElem? e), (Option.some.inj h).symm⟩
/-- the reading of a comprehension over a text's signs -/
theorem lc_str {x : Str} {g : TG} {tt : TT} {te : TE} {vs : List Nat} {σ : L2.St} {H1 : Hp} {D : Addr} {Qd : Hp → Prop} (Pv : Nat → Hp → Prop)
    (h0 : Pv 0 (upd H1 D (.lst [])))
    (hs : ∀ i c H, x.cps[i]? = some c → Pv i H → g (.str ⟨#[c]⟩) (wipe σ vs) H fun σ2 H2 => wipe σ2 vs = wipe σ vs ∧ tt σ2 H2 fun b H3 =>
      if b = true then te σ2 H3 fun y H4 => ∃ acc, H4 D = some (.lst acc) ∧ acc.length < sizeLine ∧ Pv (i + 1) (upd H4 D (.lst (acc ++ [y]))) else Pv (i + 1) H3)
    (hd : ∀ H, Pv x.cps.size H → Qd H) :
    ∃ W : Nat → Nat → Hp → Prop, (∃ m, W 0 m (upd H1 D (.lst []))) ∧ ∀ i m H, W i m H →
      ((Its x).stop i H ∧ Qd H) ∨ ((Its x).go i H ∧ ∃ Nx : Hp → Prop, (∀ H', Nx H' → ∃ m', m' < m ∧ W (i + 1) m' H') ∧
        ∀ v H', (Its x).yld i H v H' → g v (wipe σ vs) H' fun σ2 H2 => wipe σ2 vs = wipe σ vs ∧ tt σ2 H2 fun b H3 =>
          if b = true then te σ2 H3 fun y H4 => ∃ acc, H4 D = some (.lst acc) ∧ acc.length < sizeLine ∧ Nx (upd H4 D (.lst (acc ++ [y]))) else Nx H3) := by
  refine ⟨fun i m H => m = x.cps.size - i ∧ i ≤ x.cps.size ∧ Pv i H, ⟨x.cps.size, by simp, Nat.zero_le _, h0⟩, ?_⟩
  rintro i m H ⟨rfl, le, p⟩
  by_cases lt : i < x.cps.size
  · refine Or.inr ⟨lt, Pv (i + 1), fun H' p' => ⟨x.cps.size - (i + 1), by omega, rfl, lt, p'⟩, ?_⟩
    rintro v H' ⟨rfl, c, hc, rfl⟩
    exact hs i c _ hc p
  · obtain rfl : i = x.cps.size := by omega
    exact Or.inl ⟨Nat.le_refl _, hd H p⟩
section
open Evl
variable {K : PySem.W.Frag} {σ : L2.St} {H : Hp} {te tl tu ts : TE}
theorem ev_lenset {x : Str} (h : Ev te σ H (.str x)) (small : x.cps.size ≤ 1000) : Ev (tLenSetS te) σ H (.int (dist (seen x x.cps.size)).length) :=
  fun H1 e Q q => h H1 e _ fun H2 e2 => ⟨x, rfl, small, q H2 e2⟩
theorem ev_sl3 {x : Str} {i j k : Int} (h : Ev te σ H (.str x)) (h1 : Ev tl σ H (.int i)) (h2 : Ev tu σ H (.int j)) (h3 : Ev ts σ H (.int k)) (pos : 0 < k) (z : x.length ≤ sizeLine) :
    Ev (tSl3 te tl tu ts) σ H (.str (Txt.sliceBy x (some (i, 0)) (some (j, 0)) (k, 0))) :=
  fun H1 e Q q => h H1 e _ fun H2 e2 => h1 H2 (e.trans e2) _ fun H3 e3 => h2 H3 ((e.trans e2).trans e3) _ fun H4 e4 =>
    h3 H4 (((e.trans e2).trans e3).trans e4) _ fun H5 e5 => ⟨x, i, j, k, rfl, rfl, rfl, rfl, pos, z, q H5 (((e2.trans e3).trans e4).trans e5)⟩
theorem ev_str_len {x : Str} (h : Ev te σ H (.str x)) (z : x.length ≤ sizeLine) :
    Ev (tCB (fun xs H Q => ∃ x n, xs = [x] ∧ LenV K x H n ∧ Q (.int (n : Nat)) H) (tCons te tNil)) σ H (.int (x.length : Nat)) :=
  fun H1 e Q q => h H1 e _ fun H2 e2 => ⟨.str x, x.length, rfl, ⟨z, rfl⟩, q H2 e2⟩
theorem ev_anyN {bs : List Bool} (h : EvL te σ H (bs.map V.bl)) : Ev (tCB (rAny K) (tCons te tNil)) σ H (.bl (bs.any id)) :=
  fun H1 e Q q => h H1 e _ fun p H2 _ e2 hp => ⟨p, bs, rfl, sq_of hp, q H2 e2⟩
theorem ev_allN {bs : List Bool} (h : EvL te σ H (bs.map V.bl)) : Ev (tCB (rAll K) (tCons te tNil)) σ H (.bl (bs.all id)) :=
  fun H1 e Q q => h H1 e _ fun p H2 _ e2 hp => ⟨p, bs, rfl, sq_of hp, q H2 e2⟩
theorem eu_tupleN {xs : List V} (h : EvL te σ H xs) : EvU (tCB (fun xs H Q => ∃ p ys, xs = [.ref p] ∧ ((SqL K H p ys ∧ ∀ l, H l = none → Q (.ref l) (upd H l (.tup ys))) ∨ (SqT K H p ys ∧ Q (.ref p) H))) (tCons te tNil)) σ H xs :=
  fun H1 e Q q => h H1 e _ fun p H2 _ e2 h2 => ⟨p, xs, rfl, Or.inl ⟨sq_of h2, fun l hl => q l _ (fresh_back e2 hl) (e2.trans (Ex.new hl)) upd_same⟩⟩
theorem et_yes : EvT tYes σ H true := fun H1 _ _ q => q H1 (Ex.refl H1)
/-- over a text's signs -/
theorem el_lcS {x : Str} {tl : TE} {tt : TT} {j : Nat} {vs : List Nat} (f : Nat → Bool) (v : Nat → V) (h : Ev tl σ H (.str x)) (hz : x.cps.size ≤ 40000)
    (hw : ∀ y, wipe ((wipe σ vs).set j (some y)) vs = wipe σ vs)
    (ht : ∀ (i c : Nat) H1, Ex H H1 → x.cps[i]? = some c → EvT tt ((wipe σ vs).set j (some (.str ⟨#[c]⟩))) H1 (f i))
    (he : ∀ (i c : Nat) H1, Ex H H1 → x.cps[i]? = some c → f i = true → Ev te ((wipe σ vs).set j (some (.str ⟨#[c]⟩))) H1 (v i)) :
    EvL (tLc (iStr tl) (gName j) tt te vs) σ H (given x.cps.size f v) := fun H0 e Q q => h H0 e _ fun H1 e1 => ⟨x, rfl, fun Dl hD =>
  lc_str (x := x) (Cw H1 f v Dl) ⟨hD, Ex.new hD, upd_same⟩ (fun i c H' hi p =>
    ⟨hw _, cw_turn p (by have := (Array.getElem?_eq_some_iff.mp hi).1; omega) (ht i c H1 (e.trans e1) hi) (fun hf => he i c H1 (e.trans e1) hi hf)⟩)
    (fun H' p => q Dl H' (fresh_back e1 p.1) (e1.trans p.2.1) p.2.2)⟩
/-- over a tuple that is made on the way -/
theorem el_lcU {xs : List V} {tl : TE} {tt : TT} {j : Nat} {vs : List Nat} (f : Nat → Bool) (v : Nat → V) (h : EvU tl σ H xs) (hz : xs.length ≤ 40000)
    (hw : ∀ y, wipe ((wipe σ vs).set j (some y)) vs = wipe σ vs)
    (ht : ∀ (i : Nat) (x : V) H1, Ex H H1 → xs[i]? = some x → EvT tt ((wipe σ vs).set j (some x)) H1 (f i))
    (he : ∀ (i : Nat) (x : V) H1, Ex H H1 → xs[i]? = some x → f i = true → Ev te ((wipe σ vs).set j (some x)) H1 (v i)) :
    EvL (tLc (iTup K tl) (gName j) tt te vs) σ H (given xs.length f v) := fun H0 e Q q => h H0 e _ fun a H1 ha e1 hx => ⟨a, rfl, ⟨xs, st_of hx⟩, fun Dl hD =>
  lc_tup (xs := xs) (Cw H1 f v Dl) ⟨hD, Ex.new hD, upd_same⟩ (fun i H' _ p => st_of (p.2.1 a _ hx)) (fun i x H' hi p =>
    ⟨hw _, cw_turn p (by have := (List.getElem?_eq_some_iff.mp hi).1; omega) (ht i x H1 (e.trans e1) hi) (fun hf => he i x H1 (e.trans e1) hi hf)⟩)
    (fun H' p => q Dl H' (fresh_back e1 p.1) (e1.trans p.2.1) p.2.2)⟩
theorem ev_inSign {ta tb : TE} {c : Nat} {z : Str} (ha : Ev ta σ H (.str ⟨#[c]⟩)) (hb : Ev tb σ H (.str z)) :
    Ev (tOp (fun x y H Q => ∃ (c : Nat) (z : Str), x = .str ⟨#[c]⟩ ∧ y = .str z ∧ Q (.bl (decide (c ∈ z.cps.toList))) H) ta tb) σ H (.bl (decide (c ∈ z.cps.toList))) :=
  ev_op ha hb fun H1 _ Q q => ⟨c, z, rfl, rfl, q H1 (Ex.refl H1)⟩
theorem ev_count {ta tb : TE} {x y : Str} (ha : Ev ta σ H (.str x)) (hb : Ev tb σ H (.str y)) :
    Ev (tBM K "str" (fun x xs H Q => ∃ a b, x = .str a ∧ xs = [.str b] ∧ Q (.int (Txt.count a b)) H) ta (tCons tb tNil)) σ H (.int (Txt.count x y)) :=
  fun H1 e Q q => ha H1 e _ fun H2 e2 => ⟨rfl, hb H2 (e.trans e2) _ fun H3 e3 => ⟨x, y, rfl, rfl, q H3 (e2.trans e3)⟩⟩
def nth (l : List V) (i : Nat) : V := l.getD i .non
theorem nth_of {l : List V} {i : Nat} {x : V} (h : l[i]? = some x) : nth l i = x := by
  unfold nth
  rw [List.getD_eq_getElem?_getD, h]
  rfl
theorem given_all (l : List V) (g : V → V) : given l.length (fun _ => true) (fun i => g (nth l i)) = l.map g := by
  unfold given
  refine List.ext_getElem? fun i => ?_
  rw [List.filter_eq_self.mpr (fun _ _ => rfl), List.getElem?_map, List.getElem?_map]
  by_cases h : i < l.length
  · rw [List.getElem?_range h, List.getElem?_eq_getElem h]
    show some (g (nth l i)) = some (g l[i])
    rw [nth_of (List.getElem?_eq_getElem h)]
  · rw [List.getElem?_eq_none (by simpa using h), List.getElem?_eq_none (by omega)]
    rfl
theorem given_mem {n : Nat} {f : Nat → Bool} {v : Nat → V} {x : V} (h : x ∈ given n f v) : ∃ i, i < n ∧ f i = true ∧ x = v i := by
  unfold given at h
  obtain ⟨i, hi, rfl⟩ := List.mem_map.mp h
  obtain ⟨h1, h2⟩ := List.mem_filter.mp hi
  exact ⟨i, List.mem_range.mp h1, h2, rfl⟩
theorem eu_repK {ta tb : TE} {x : V} {n : Nat} (h1 : EvU ta σ H [x]) (h2 : Ev tb σ H (.int (n : Int))) (n1 : 1 ≤ n) (n2 : n ≤ 1000) :
    EvU (tOp (rRepK K) ta tb) σ H (List.replicate n x) := fun H1 e Q q => h1 H1 e _ fun p H2 hp e2 hx => h2 H2 (e.trans e2) _ fun H3 e3 => by
  refine ⟨p, (n : Int), [x], rfl, rfl, st_of (e3 _ _ hx), by simp, by omega, by omega, by show 1 ≤ 1000; decide, fun one => ?_, fun two p2 hp2 => ?_⟩
  · obtain rfl : n = 1 := by omega
    exact q p H3 hp (e2.trans e3) (e3 _ _ hx)
  · refine q p2 _ (fresh_back (e2.trans e3) hp2) ((e2.trans e3).trans (Ex.new hp2)) ?_
    rw [upd_same, Int.toNat_natCast]
    congr 2
    simp
theorem ev_def2U {sp : Sp} {v z : V} {xs : List V} {ta tb : TE} (h1 : Ev ta σ H z) (h2 : EvU tb σ H xs)
    (hs : ∀ p H1, Ex H H1 → H1 p = some (.tup xs) → ∀ Q : VK, (∀ H2, Ex H1 H2 → Q v H2) → sp [z, .ref p] H1 Q E0) : Ev (tDef sp (tCons ta (tCons tb tNil))) σ H v :=
  fun H1 e Q q => h1 H1 e _ fun H2 e2 => h2 H2 (e.trans e2) _ fun p H3 _ e3 hp => hs p H3 ((e.trans e2).trans e3) hp Q fun H4 e4 => q H4 ((e2.trans e3).trans e4)
theorem ev_def {sp : Sp} {v : V} {ta : TA} {vs : List V} (h : EvA ta σ H vs) (hs : ∀ H1, Ex H H1 → ∀ Q : VK, (∀ H2, Ex H1 H2 → Q v H2) → sp vs H1 Q E0) : Ev (tDef sp ta) σ H v :=
  fun H1 e Q q => h H1 e _ fun H2 e2 => hs H2 (e.trans e2) Q fun H3 e3 => q H3 (e2.trans e3)
end

/-! ### rows of tuples -/
abbrev IsRow (H : Hp) (x : V) (as : List Nat) : Prop := ∃ a, x = .ref a ∧ H a = some (.tup (iv as))
abbrev Rows (H : Hp) (xs : List V) (L : List (List Nat)) : Prop := Paired (IsRow H) xs L
theorem Rows.mono {H H' : Hp} (e : Evl.Ex H H') : ∀ {xs : List V} {L : List (List Nat)}, Rows H xs L → Rows H' xs L
  | _, _, .nil => .nil
  | _, _, .cons ⟨a, h1, h2⟩ t => .cons ⟨a, h1, e _ _ h2⟩ (Rows.mono e t)
theorem Rows.but {p : Addr} {H H' : Hp} (e : ∀ b o, b ≠ p → H b = some o → H' b = some o) (np : ∀ l, H p ≠ some (.tup l)) : ∀ {xs : List V} {L : List (List Nat)}, Rows H xs L → Rows H' xs L
  | _, _, .nil => .nil
  | _, _, .cons ⟨a, h1, h2⟩ t => .cons ⟨a, h1, e _ _ (fun z => np _ (z ▸ h2)) h2⟩ (Rows.but e np t)
theorem Rows.len {H : Hp} {xs : List V} {L : List (List Nat)} (r : Rows H xs L) : xs.length = L.length := Paired.length r
theorem Rows.append {H : Hp} : ∀ {xs ys : List V} {L M : List (List Nat)}, Rows H xs L → Rows H ys M → Rows H (xs ++ ys) (L ++ M)
  | _, _, _, _, .nil, s => s
  | _, _, _, _, .cons r t, s => .cons r (Rows.append t s)
theorem Rows.get {H : Hp} : ∀ {xs : List V} {L : List (List Nat)} {i : Nat} {x : V}, Rows H xs L → xs[i]? = some x → ∃ as, L[i]? = some as ∧ IsRow H x as
  | _, _, _, _, .nil, h => by simp at h
  | _, _, 0, _, .cons r t, h => by simp at h; subst h; exact ⟨_, rfl, r⟩
  | _, _, i + 1, _, .cons r t, h => by
    obtain ⟨as, h1, h2⟩ := Rows.get (i := i) t (by simpa using h)
    exact ⟨as, by simpa using h1, h2⟩
/-- a comprehension of two clauses: the outer one over a list -/
theorem lc2_out {K : PySem.W.Frag} {a : Addr} {xs : List V} {H0 : Hp} {Qd : Hp → Prop} {Bd : V → Hp → (Hp → Prop) → Prop} (Pv : Nat → Hp → Prop) (h0 : Pv 0 H0)
    (hl : ∀ i H, i ≤ xs.length → Pv i H → SqL K H a xs) (hs : ∀ i x H, xs[i]? = some x → Pv i H → Bd x H (Pv (i + 1))) (hd : ∀ H, Pv xs.length H → Qd H) :
    ∃ W : Nat → Nat → Hp → Prop, (∃ m, W 0 m H0) ∧ ∀ i m H, W i m H → ((Itl K a).stop i H ∧ Qd H) ∨
      ((Itl K a).go i H ∧ ∃ Nx : Hp → Prop, (∀ H', Nx H' → ∃ m', m' < m ∧ W (i + 1) m' H') ∧ ∀ x H', (Itl K a).yld i H x H' → Bd x H' Nx) := by
  refine ⟨fun i m H => m = xs.length - i ∧ i ≤ xs.length ∧ Pv i H, ⟨xs.length, by simp, Nat.zero_le _, h0⟩, ?_⟩
  rintro i m H ⟨rfl, le, p⟩
  have here := hl i H le p
  by_cases lt : i < xs.length
  · refine Or.inr ⟨⟨xs, xs[i], here, List.getElem?_eq_getElem lt⟩, Pv (i + 1), fun H' p' => ⟨xs.length - (i + 1), by omega, rfl, lt, p'⟩, ?_⟩
    rintro x H' ⟨rfl, hx⟩
    exact hs i x _ (hx xs here) p
  · obtain rfl : i = xs.length := by omega
    exact Or.inl ⟨⟨xs, here, Nat.le_refl _⟩, hd H p⟩
/-- .. over a tuple -/
theorem lc2_tup {K : PySem.W.Frag} {a : Addr} {xs : List V} {H0 : Hp} {Qd : Hp → Prop} {Bd : V → Hp → (Hp → Prop) → Prop} (Pv : Nat → Hp → Prop) (h0 : Pv 0 H0)
    (hl : ∀ i H, i ≤ xs.length → Pv i H → SqT K H a xs) (hs : ∀ i x H, xs[i]? = some x → Pv i H → Bd x H (Pv (i + 1))) (hd : ∀ H, Pv xs.length H → Qd H) :
    ∃ W : Nat → Nat → Hp → Prop, (∃ m, W 0 m H0) ∧ ∀ i m H, W i m H → ((Itt K a).stop i H ∧ Qd H) ∨
      ((Itt K a).go i H ∧ ∃ Nx : Hp → Prop, (∀ H', Nx H' → ∃ m', m' < m ∧ W (i + 1) m' H') ∧ ∀ x H', (Itt K a).yld i H x H' → Bd x H' Nx) := by
  refine ⟨fun i m H => m = xs.length - i ∧ i ≤ xs.length ∧ Pv i H, ⟨xs.length, by simp, Nat.zero_le _, h0⟩, ?_⟩
  rintro i m H ⟨rfl, le, p⟩
  have here := hl i H le p
  by_cases lt : i < xs.length
  · refine Or.inr ⟨⟨xs, xs[i], here, List.getElem?_eq_getElem lt⟩, Pv (i + 1), fun H' p' => ⟨xs.length - (i + 1), by omega, rfl, lt, p'⟩, ?_⟩
    rintro x H' ⟨rfl, hx⟩
    exact hs i x _ (hx xs here) p
  · obtain rfl : i = xs.length := by omega
    exact Or.inl ⟨⟨xs, here, Nat.le_refl _⟩, hd H p⟩
def ext (r : List Nat) : List (List Nat) := [r ++ [0], r ++ [1], r ++ [2]]
theorem tups_succ (n : Nat) : tups (n + 1) = (tups n).flatMap ext := rfl
theorem flat_take {L : List (List Nat)} {i : Nat} {r : List Nat} (h : L[i]? = some r) : (L.take (i + 1)).flatMap ext = (L.take i).flatMap ext ++ ext r := by
  rw [List.take_succ, h, List.flatMap_append]
  simp
theorem flat_small {n i : Nat} (h : n ≤ 3) : ((tups n).take i).length ≤ 27 ∧ (((tups n).take i).flatMap ext).length ≤ 81 := by
  have e : ∀ L : List (List Nat), (L.flatMap ext).length = 3 * L.length := by
    intro L
    induction L with
    | nil => rfl
    | cons a r ih =>
      rw [List.flatMap_cons, List.length_append, ih, List.length_cons]
      show 3 + 3 * r.length = _
      omega
  have h1 : (tups n).length ≤ 27 := by
    rw [(tups_ok n h).1]
    exact Nat.le_trans (Nat.pow_le_pow_right (by decide) h) (by decide)
  rw [e, List.length_take]
  omega
/-- tuple + a tuple of one: a row more -/
theorem catA_row {K : PySem.W.Frag} {H : Hp} {x : V} {as : List Nat} {k : Nat} (r : IsRow H x as) (z : as.length ≤ 100) {q : Addr} (hq : H q = some (.tup [V.int (k : Int)])) {Q : VK}
    (h : ∀ y H', Evl.Ex H H' → IsRow H' y (as ++ [k]) → Q y H') : rCatA K x (.ref q) H Q := by
  obtain ⟨a, rfl, ha⟩ := r
  have e2 : iv as ++ [V.int (k : Int)] = iv (as ++ [k]) := by unfold iv; rw [List.map_append]; rfl
  refine ⟨a, q, _, _, rfl, rfl, SqT.of ha, SqT.of hq, ?_, fun e => ?_, fun _ e => (by cases e), fun _ _ p hp => ?_⟩
  · rw [iv_len]
    exact Nat.le_trans (Nat.add_le_add_right z 1) (by decide)
  · refine h (.ref q) H (Evl.Ex.refl H) ⟨q, rfl, ?_⟩
    rw [hq, ← e2, e]
    rfl
  · refine h (.ref p) _ (Evl.Ex.new hp) ⟨p, rfl, ?_⟩
    rw [upd_same, e2]
theorem tups_short {n j : Nat} {r : List Nat} (h : n ≤ 3) (e : (tups n)[j]? = some r) : r.length ≤ 100 := by
  obtain ⟨lt, e2⟩ := List.getElem?_eq_some_iff.mp e
  have h1 := ((tups_ok n h).2 j lt).2.1
  rw [List.getD_eq_getElem?_getD, e] at h1
  have : r.length = n := h1
  omega
theorem ext_take (r : List Nat) {m : Nat} (h : m < 3) : (ext r).take (m + 1) = (ext r).take m ++ [r ++ [m]] := by
  have : m = 0 ∨ m = 1 ∨ m = 2 := by omega
  rcases this with rfl | rfl | rfl <;> rfl
theorem iv3_at {m : Nat} {x : V} (h : (iv [0, 1, 2])[m]? = some x) : m < 3 ∧ x = .int (m : Int) := by
  match m, h with
  | 0, h => exact ⟨by decide, (Option.some.inj h).symm⟩
  | 1, h => exact ⟨by decide, (Option.some.inj h).symm⟩
  | 2, h => exact ⟨by decide, (Option.some.inj h).symm⟩

/-! ### texts put together of signs -/
def rJoin (K : PySem.W.Frag) : V → List V → Hp → VK → Prop := fun x xs H Q => ∃ a p, ∃ ys : List Str, x = .str a ∧ xs = [.ref p] ∧
  (SqL K H p (ys.map V.str) ∨ SqT K H p (ys.map V.str)) ∧ (ys.map (·.length)).sum + ys.length * a.length ≤ 16777216 ∧ Q (.str (Txt.join a ys)) H
theorem join_fold : ∀ (ds : List Nat) (acc : Array Nat), (ds.map fun d => (⟨#[48 + d]⟩ : Str)).foldl (fun a p => a ++ (Str.ofString "").cps ++ p.cps) acc = acc ++ (ds.map (48 + ·)).toArray
  | [], acc => by simp
  | d :: r, acc => by
    rw [List.map_cons, List.foldl_cons, join_fold r]
    have e : (Str.ofString "").cps = #[] := rfl
    rw [e]
    simp
theorem join_tab (ds : List Nat) : Txt.join (Str.ofString "") (ds.map fun d => (⟨#[48 + d]⟩ : Str)) = tab ds := by
  cases ds with
  | nil => rfl
  | cons d r =>
    show Builtin.Str.glued (Str.ofString "") (⟨#[48 + d]⟩ :: r.map fun d => (⟨#[48 + d]⟩ : Str)) = _
    unfold Builtin.Str.glued tab
    rw [List.drop_one, List.tail_cons, join_fold r]
    simp
section
open Evl
variable {K : PySem.W.Frag} {σ : L2.St} {H : Hp} {te : TE}
theorem ev_joinL {a : Str} {ys : List Str} {to : TE} (h1 : Ev to σ H (.str a)) (h2 : EvL te σ H (ys.map V.str)) (z : (ys.map (·.length)).sum + ys.length * a.length ≤ 16777216) :
    Ev (tM1 (rJoin K) to te) σ H (.str (Txt.join a ys)) := fun H1 e Q q => h1 H1 e _ fun H2 e2 => ⟨⟨a, rfl⟩, h2 H2 (e.trans e2) _ fun p H3 _ e3 h3 =>
  ⟨a, p, ys, rfl, rfl, Or.inl (sq_of h3), z, q H3 (e2.trans e3)⟩⟩
theorem ev_joinTab {ds : List Nat} {to : TE} (h1 : Ev to σ H (.str (Str.ofString ""))) (h2 : EvL te σ H ((ds.map fun d => (⟨#[48 + d]⟩ : Str)).map V.str)) (z : ds.length ≤ 1000) :
    Ev (tM1 (rJoin K) to te) σ H (.str (tab ds)) := by
  rw [← join_tab]
  refine ev_joinL h1 h2 ?_
  have e : ((ds.map fun d => (⟨#[48 + d]⟩ : Str)).map (·.length)).sum = ds.length := by
    clear h2 z
    induction ds with
    | nil => rfl
    | cons d r ih =>
      rw [List.map_cons, List.map_cons, List.sum_cons, ih, List.length_cons]
      show 1 + r.length = _
      omega
  have e0 : (Str.ofString "").length = 0 := rfl
  rw [e, e0, List.length_map]
  omega
/-- over a tuple that stands -/
theorem el_lcT {a : Addr} {xs : List V} {tl : TE} {tt : TT} {j : Nat} {vs : List Nat} (f : Nat → Bool) (v : Nat → V) (h : Ev tl σ H (.ref a)) (hx : SqT K H a xs) (hz : xs.length ≤ 40000)
    (hw : ∀ y, wipe ((wipe σ vs).set j (some y)) vs = wipe σ vs)
    (ht : ∀ (i : Nat) (x : V) H1, Ex H H1 → xs[i]? = some x → EvT tt ((wipe σ vs).set j (some x)) H1 (f i))
    (he : ∀ (i : Nat) (x : V) H1, Ex H H1 → xs[i]? = some x → f i = true → Ev te ((wipe σ vs).set j (some x)) H1 (v i)) :
    EvL (tLc (iTup K tl) (gName j) tt te vs) σ H (given xs.length f v) := fun H0 e Q q => h H0 e _ fun H1 e1 => ⟨a, rfl, ⟨xs, ex_t (e.trans e1) hx⟩, fun Dl hD =>
  lc_tup (xs := xs) (Cw H1 f v Dl) ⟨hD, Ex.new hD, upd_same⟩ (fun i H' _ p => ex_t ((e.trans e1).trans p.2.1) hx) (fun i x H' hi p =>
    ⟨hw _, cw_turn p (by have := (List.getElem?_eq_some_iff.mp hi).1; omega) (ht i x H1 (e.trans e1) hi) (fun hf => he i x H1 (e.trans e1) hi hf)⟩)
    (fun H' p => q Dl H' (fresh_back e1 p.1) (e1.trans p.2.1) p.2.2)⟩
theorem given_iv {α : Type} (d0 : α) (as : List α) (g : α → V) : given as.length (fun _ => true) (fun i => g (as.getD i d0)) = as.map g := by
  unfold given
  refine List.ext_getElem? fun i => ?_
  rw [List.filter_eq_self.mpr (fun _ _ => rfl), List.getElem?_map, List.getElem?_map]
  by_cases h : i < as.length
  · rw [List.getElem?_range h, List.getElem?_eq_getElem h]
    show some (g (as.getD i d0)) = some (g as[i])
    rw [List.getD_eq_getElem?_getD, List.getElem?_eq_getElem h]
    rfl
  · rw [List.getElem?_eq_none (by simpa using h), List.getElem?_eq_none (by omega)]
    rfl
theorem ev_strInt {d : Nat} (h : Ev te σ H (.int (d : Int))) (d3 : d < 3) :
    Ev (tCB (fun xs H Q => ∃ i : Int, xs = [.int i] ∧ i.natAbs.log2 < 1920 ∧ Q (.str (toString i)) H) (tCons te tNil)) σ H (.str ⟨#[48 + d]⟩) :=
  fun H1 e Q q => h H1 e _ fun H2 e2 => ⟨(d : Int), rfl, by have : d = 0 ∨ d = 1 ∨ d = 2 := by omega
                                                            rcases this with rfl | rfl | rfl <;> decide, by have := q H2 e2; rw [← str_digit d d3] at this; exact this⟩
end

/-! ### rows made of rows -/
section
open Evl
variable {K : PySem.W.Frag} {σ : L2.St} {H : Hp} {ta tb te : TE}
def EvRow (te : TE) (σ : L2.St) (H : Hp) (as : List Nat) : Prop := ∀ H1, Ex H H1 → ∀ Q : VK, (∀ y H2, Ex H1 H2 → IsRow H2 y as → Q y H2) → te σ H1 Q
theorem evr_take {p : Addr} {as : List Nat} {k : Nat} {tk : TE} (h : Ev te σ H (.ref p)) (hp : H p = some (.tup (iv as))) (hk : Ev tk σ H (.int (k : Int))) (lt : k < as.length) :
    EvRow (tSl (rSlA K) te tNoPart (tPart tk)) σ H (as.take k) := fun H1 e Q q => h H1 e _ fun H2 e2 => hk H2 (e.trans e2) _ fun H3 e3 => by
  refine ⟨(k : Int), rfl, p, iv as, rfl, st_of (e3 _ _ (e2 _ _ (e _ _ hp))), fun z => ?_, fun _ r hr => ?_⟩
  · rw [HT.sIx_nat, iv_len] at z
    omega
  · refine q (.ref r) _ ((e2.trans e3).trans (Ex.new hr)) ⟨r, rfl, ?_⟩
    rw [upd_same]
    unfold cutV
    rw [HT.sIx_none, HT.sIx_nat, List.drop_zero, Nat.sub_zero, iv_len, Nat.min_eq_left (by omega)]
    unfold iv
    rw [List.map_take]
theorem evr_drop {p : Addr} {as : List Nat} {k : Nat} {tk : TE} (h : Ev te σ H (.ref p)) (hp : H p = some (.tup (iv as))) (hk : Ev tk σ H (.int ((k : Int) + 1))) (lt : k < as.length) :
    EvRow (tSl (rSlA K) te (tPart tk) tNoPart) σ H (as.drop (k + 1)) := fun H1 e Q q => h H1 e _ fun H2 e2 => hk H2 (e.trans e2) _ fun H3 e3 => by
  have ek : (k : Int) + 1 = ((k + 1 : Nat) : Int) := by omega
  refine ⟨(k : Int) + 1, rfl, p, iv as, rfl, st_of (e3 _ _ (e2 _ _ (e _ _ hp))), fun z => ?_, fun _ r hr => ?_⟩
  · rw [ek, HT.sIx_nat, iv_len] at z
    omega
  · refine q (.ref r) _ ((e2.trans e3).trans (Ex.new hr)) ⟨r, rfl, ?_⟩
    rw [upd_same]
    unfold cutV
    rw [ek, HT.sIx_none, HT.sIx_nat, iv_len, Nat.min_eq_left (by omega)]
    unfold iv
    rw [List.take_of_length_le (by simp), List.map_drop]
theorem evr_one {k : Nat} (h : Ev te σ H (.int (k : Int))) : EvRow (tTup (tCons te tNil)) σ H [k] := fun H1 e Q q => h H1 e _ fun H2 e2 =>
  ⟨by show 1 ≤ sizeLine; decide, fun r hr => q (.ref r) _ (e2.trans (Ex.new hr)) ⟨r, rfl, upd_same⟩⟩
theorem evr_cat {as bs : List Nat} (ha : EvRow ta σ H as) (hb : EvRow tb σ H bs) (z : as.length + bs.length ≤ 1000) : EvRow (tOp (rCatA K) ta tb) σ H (as ++ bs) :=
  fun H1 e Q q => ha H1 e _ fun x H2 e2 ⟨a, ex, hx⟩ => hb H2 (e.trans e2) _ fun y H3 e3 ⟨b, ey, hy⟩ => by
    subst ex
    subst ey
    have hx3 := e3 _ _ hx
    refine ⟨a, b, iv as, iv bs, rfl, rfl, st_of hx3, st_of hy, by rw [iv_len, iv_len]; exact Nat.le_trans z (by decide), fun h => ?_, fun h h2 => ?_, fun h h2 r hr => ?_⟩
    · have : as = [] := by cases as with
        | nil => rfl
        | cons a b => cases h
      subst this
      exact q (.ref b) H3 (e2.trans e3) ⟨b, rfl, hy⟩
    · have : bs = [] := by cases bs with
        | nil => rfl
        | cons a b => cases h2
      subst this
      rw [List.append_nil] at q
      exact q (.ref a) H3 (e2.trans e3) ⟨a, rfl, hx3⟩
    · refine q (.ref r) _ ((e2.trans e3).trans (Ex.new hr)) ⟨r, rfl, ?_⟩
      rw [upd_same]
      unfold iv
      rw [List.map_append]
theorem ev_defRow {sp : Sp} {v z : V} {as : List Nat} (h1 : Ev ta σ H z) (h2 : EvRow tb σ H as)
    (hs : ∀ p H1, Ex H H1 → H1 p = some (.tup (iv as)) → ∀ Q : VK, (∀ H2, Ex H1 H2 → Q v H2) → sp [z, .ref p] H1 Q E0) : Ev (tDef sp (tCons ta (tCons tb tNil))) σ H v :=
  fun H1 e Q q => h1 H1 e _ fun H2 e2 => h2 H2 (e.trans e2) _ fun y H3 e3 ⟨p, ey, hp⟩ => by
    subst ey
    exact hs p H3 ((e.trans e2).trans e3) hp Q fun H4 e4 => q H4 ((e2.trans e3).trans e4)
theorem el_rep3 {xs : List V} (h : EvL ta σ H xs) (z : xs.length ≤ 1000) : EvL (tOp rRep ta (tC (.int 3))) σ H (xs ++ (xs ++ xs)) := fun H1 e Q q => h H1 e _ fun p H2 hp e2 hx =>
  ⟨p, 3, xs, rfl, rfl, hx, by decide, by decide, Nat.le_trans (by show xs.length * 3 ≤ 3000; omega) (by decide), fun r hr => q r _ (fresh_back e2 hr) (e2.trans (Ex.new hr)) (by
    rw [upd_same]
    congr 2
    show xs ++ (xs ++ (xs ++ [])) = _
    rw [List.append_nil])⟩
end
theorem set_split (as : List Nat) (k e : Nat) (h : k < as.length) : as.take k ++ [e] ++ as.drop (k + 1) = as.set k e := by
  rw [List.set_eq_take_append_cons_drop, if_pos h]
  simp
theorem gen_app {f : Hp → Prop} {H0 : Hp} (h : ∀ H1, H1 = H0 → f H1) : f H0 := h H0 rfl
/-- digits as signs -/
def signs_ (ds : List Nat) : List V := (ds.map fun d => (⟨#[48 + d]⟩ : Str)).map V.str
theorem signs_snoc (ds : List Nat) (d : Nat) : signs_ ds ++ [V.str ⟨#[48 + d]⟩] = signs_ (ds ++ [d]) := by unfold signs_; rw [List.map_append, List.map_append]; rfl
end Tv

namespace Tv
open PySem PySem.Spec PyProof.Rows L2
/-! ### for a, b in zip(list, text) -/
/-- the list at a as it stands, beside the text y of as many signs -/
def Itx (K : PySem.W.Frag) (a : Addr) (y : Str) : It :=
  ⟨fun i H => ∃ (xs : List V) (x : V), SqL K H a xs ∧ xs[i]? = some x ∧ xs.length = y.cps.size,
    fun i H v H' => ∃ T x, v = .ref T ∧ H T = none ∧ H' = upd H T (.tup [x, signAt i y]) ∧ ∀ xs, SqL K H a xs → xs[i]? = some x,
    fun i H => ∃ xs : List V, SqL K H a xs ∧ xs.length = y.cps.size ∧ xs.length = i⟩
abbrev SideLS (h : Heap) (z TI TO i1 i2 a : Addr) (y : Str) (t : Tok) (i : Nat) : Prop :=
  IsZip h z TI TO .none ∧ IsTupOf2 h TI (.ref i1) (.ref i2) ∧ (∃ v u, IsTupOf2 h TO v u) ∧ h.IsListIter i1 a i ∧ h.IsStrIter i2 "str_ascii_iterator" y t i
theorem turn_sideLS {P : Program} {w : World} {K : PySem.W.Frag} {elts : List Expr} {kk : Nat} {tpos : Pos} {z TI TO i1 i2 a : Addr} {y : Str} {t : Tok} (S : ZipSep2 z TI TO i1 i2 [i1, a] [i2]) (na : a ≠ i1) :
    Turn P w K (.Tuple elts kk tpos) (Itx K a y) [z, TI, TO, i1, i2] z (fun i h => SideLS h z TI TO i1 i2 a y t i) where
  mem := by simp
  obj := fun i h st b hb => by
    obtain ⟨q1, q2, ⟨_, _, q3⟩, ⟨o1, e1, _, d1⟩, ⟨o2, e2, _, d2⟩⟩ := st
    have where_ : b = z ∨ b = TI ∨ b = TO ∨ b = i1 ∨ b = i2 := by simpa using hb
    rcases where_ with rfl | rfl | rfl | rfl | rfl
    · exact ⟨_, q1, fun v q => nomatch q⟩
    · exact ⟨_, q2, fun v q => nomatch q⟩
    · exact ⟨_, q3, fun v q => nomatch q⟩
    · exact ⟨o1, e1, fun v q => by rw [d1] at q; cases q⟩
    · exact ⟨o2, e2, fun v q => by rw [d2] at q; cases q⟩
  keep := fun i h h' ⟨q1, q2, ⟨v, u, q3⟩, q4, q5⟩ k =>
    ⟨k _ (by simp) _ q1, k _ (by simp) _ q2, ⟨v, u, k _ (by simp) _ q3⟩, q4.at fun o q => k _ (by simp) o q, str_at q5 fun o q => k _ (by simp) o q⟩
  item := by
    rintro X rfl rfl rfl calm i pins s σ H E I fp ⟨q1, q2, ⟨v0, u0, q3⟩, q4, q5⟩ ⟨xs, x, hx, at_x, same⟩
    obtain ⟨its, vals, p, _⟩ := I.list hx
    obtain ⟨u, at_u, ru⟩ := vals.get at_x
    have lt : i < xs.length := (List.getElem?_eq_some_iff.mp at_x).1
    have many := vals.length
    have lz := Heap.lt_size q1
    have hh : X.A.handled = none := I.ok.hd calm
    refine wpAny_pyNext_zipD2_item S (Draws.list (A := X.A.in1) hh i1 a na its.toArray) (Draws.strAscii (A := X.A.in1) hh i2 y t) q1 q2 q3 ⟨q4, p.isList⟩ q5
      (by rw [List.size_toArray]; omega) (by omega) fun w1 w2 h' tk p1 p2 z' out' st1 st2 made size_ keep => ?_
    refine ⟨_, rfl, wpAny_letOwnedTupleGo_zip (s := { s with heap := h', toks := tk }) z' fun h2 z2 same2 => ?_⟩
    have made2 : h2.get? s.heap.objs.size = some { cls := .type "tuple", data := .seq #[w1, w2] } := (same2.2 _ (Nat.ne_of_gt lz)).trans made
    obtain ⟨c, uc, at_c, rfl⟩ := p2
    have eu : w1 = u := by
      have p1' : its.toArray[i]? = some w1 := p1
      rw [List.getElem?_toArray, at_u] at p1'
      exact (Option.some.inj p1').symm
    subst eu
    have ec : signAt i y = .str ⟨#[c]⟩ := by
      unfold signAt
      rw [Array.getD_eq_getD_getElem?, at_c]
      rfl
    have new : ObjOk X.prog X.w (upd H s.heap.objs.size (.tup [x, signAt i y])) h2 s.heap.objs.size (.tup [x, signAt i y]) :=
      ⟨by show 2 ≤ sizeLine; decide, _, .cons ru (.cons (by rw [ec]; exact ⟨_, rfl⟩) .nil), ⟨_, made2, rfl, _, rfl⟩⟩
    have keep2 : ∀ b o, b ∉ [z, TI, TO, i1, i2] → s.heap.get? b = some o → h2.get? b = some o := fun b o nb q =>
      (same2.2 b fun e => nb (by simp [e])).trans (keep b o (fun e => nb (by simp [e])) (fun e => nb (by simp [e])) (fun e => nb (by simp [e])) (fun e => nb (by simp [e])) q)
    have J := I.turnedNew (t' := tk) (ch := [z, TI, TO, i1, i2]) keep2 fp (Nat.le_refl _) new
    refine ⟨.ref s.heap.objs.size, _, J, rfl, ⟨_, x, rfl, I.hok.fresh (Nat.le_refl _), rfl, fun l hl => by rw [I.list_inj hl hx]; exact at_x⟩, ⟨z2, ?_, ⟨w1, .str ⟨#[c]⟩ uc, ?_⟩, ?_, ?_⟩, fun b hb => ?_⟩
    · exact (same2.2 _ S.TIz).trans (keep _ _ S.TIz S.TITO S.TIi1 S.TIi2 q2)
    · exact (same2.2 _ S.TOz).trans out'
    · exact st1.1.at fun o q => (same2.2 _ S.zi1.symm).trans q
    · exact str_at st2 fun o q => (same2.2 _ S.zi2.symm).trans q
    · have lb : b < s.heap.objs.size := by
        obtain ⟨o1, e1, _⟩ := q4
        obtain ⟨o2, e2, _⟩ := q5
        have where_ : b = z ∨ b = TI ∨ b = TO ∨ b = i1 ∨ b = i2 := by simpa using hb
        rcases where_ with rfl | rfl | rfl | rfl | rfl
        · exact lz
        · exact Heap.lt_size q2
        · exact Heap.lt_size q3
        · exact Heap.lt_size e1
        · exact Heap.lt_size e2
      rw [upd_ne (Nat.ne_of_lt lb)]
      exact (fp b hb).1
  done := by
    rintro X rfl rfl rfl calm i pins s σ H E I fp ⟨q1, q2, ⟨v0, u0, q3⟩, q4, q5⟩ ⟨xs, hx, same, over⟩
    obtain ⟨its, vals, p, _⟩ := I.list hx
    have many := vals.length
    have hh : X.A.handled = none := I.ok.hd calm
    exact wpAny_pyNext_zipD2_end S (Draws.list (A := X.A.in1) hh i1 a na its.toArray) (Draws.strAscii (A := X.A.in1) hh i2 y t) q1 q2 q3 ⟨q4, p.isList⟩ q5
      (by rw [List.size_toArray]; omega) (by omega) (.inl (by rw [List.size_toArray]; omega)) fun h' tk keep =>
      ⟨rfl, I.turnedL (t' := tk) (ch := [z, TI, TO, i1, i2]) (fun b o nb q => keep b o (fun e => nb (by simp [e])) (fun e => nb (by simp [e])) (fun e => nb (by simp [e])) (fun e => nb (by simp [e])) q) fp⟩
  self := fun A i s Q E st h => wpAny_pyIter_zip st.1 h
def iZipLS (K : PySem.W.Frag) (ta : TA) : TI := fun σ H R => ta σ H fun vs H1 => ∃ (a : Addr) (xs : List V) (y : Str), vs = [.ref a, .str y] ∧ SqL K H1 a xs ∧ y.cps.all (· < 128) = true ∧ R (Itx K a y) H1
theorem pi_zipLS {X : Cx} {e e2 : Expr} {ta : TA} {p pos tpos : Pos} {elts : List Expr} {kk : Nat} (hg : Gl X "zip") (hm : X.mg "zip" = none) (ha : PA X [e, e2] ta)
    (two : starEach [e, e2] X.env = (false, eval e X.env) :: starEach [e2] X.env := by rfl) (plain : (backTo pos (starEach [e2] X.env)).any (·.1) = false := by rfl) :
    PI X (.Tuple elts kk tpos) (.Call (.Name "zip" p) [e, e2] [] pos) (iZipLS X.K ta) := by
  refine ⟨fun pins s σ H R I h => ?_⟩
  refine Call_ (ld_blt I hg hm PyProof.Rows.boot_zip (PyProof.Rows.callWith_type1 (thn (ha.run pos pins s σ H _ I h) fun us s1 ⟨vs, H1, I1, r1, q1⟩ => ?_) two plain))
  obtain ⟨a, xs, y, rfl, hx, ascii, q⟩ := q1
  obtain _ | ⟨r0, rr⟩ := r1
  obtain _ | ⟨⟨t, rfl⟩, rr⟩ := rr
  cases rr
  cases r0
  obtain ⟨its, vals, p1, _⟩ := I1.list hx
  have la : a < s1.heap.objs.size := p1.lt
  have ty : strIterType y = "str_ascii_iterator" := by simp [strIterType, ascii]
  refine zip_begins2 (begins_list a its.toArray) (begins_text y t) p1.isList trivial fun h' c1 c2 c3 c4 c5 size_ keep => wpAny_pyIter_zip c1 ?_
  have I2 : Inv X pins σ H1 { s1 with heap := h' } := I1.kept (t' := s1.toks) keep
  refine ⟨_, [s1.heap.objs.size + 4, s1.heap.objs.size + 2, s1.heap.objs.size + 3, s1.heap.objs.size, s1.heap.objs.size + 1], _, _, H1, rfl, I2,
    turn_sideLS (t := t) (zip_sep2 (N := s1.heap.objs.size) (fp1 := [a]) (fp2 := []) (by simpa using la) (by simp)) (Nat.ne_of_lt la), ⟨c1, c2, ⟨_, _, c3⟩, ⟨_, c4, rfl, rfl⟩, ⟨_, c5, congrArg Value.type ty, rfl⟩⟩, fun b hb => ?_, q⟩
  have le : s1.heap.objs.size ≤ b := by
    have where_ : b = s1.heap.objs.size + 4 ∨ b = s1.heap.objs.size + 2 ∨ b = s1.heap.objs.size + 3 ∨ b = s1.heap.objs.size ∨ b = s1.heap.objs.size + 1 := by simpa using hb
    have n1 : s1.heap.objs.size ≤ s1.heap.objs.size + 4 := Nat.le_add_right ..
    rcases where_ with rfl | rfl | rfl | rfl | rfl
    · exact Nat.le_add_right ..
    · exact Nat.le_add_right ..
    · exact Nat.le_add_right ..
    · exact Nat.le_refl _
    · exact Nat.le_add_right ..
  exact I1.fpOk le (I1.hok.fresh le)
/-- the loop over it -/
theorem for_zipLS {K : PySem.W.Frag} {a : Addr} {xs : List V} {y : Str} {g : TG} {tb : TS} {D : Ends} {σ : L2.St} {H : Hp} (same : xs.length = y.cps.size) (Pv : Nat → L2.St → Hp → Prop) (h0 : Pv 0 σ H) (hq : ∀ i σ H, Pv i σ H → SqL K H a xs)
    (hs : ∀ (i : Nat) (x : V) (T : Addr) (σ : L2.St) (H : Hp), xs[i]? = some x → Pv i σ H → H T = none → g (.ref T) σ (upd H T (.tup [x, signAt i y])) fun σ2 H2 => tb { D with nx := Pv (i + 1), ct := Pv (i + 1), bk := D.nx } σ2 H2)
    (hd : ∀ σ H, Pv xs.length σ H → D.nx σ H) :
    ∃ W : Nat → Nat → L2.St → Hp → Prop, (∃ m, W 0 m σ H) ∧ ∀ i m σ H, W i m σ H →
      ((Itx K a y).stop i H ∧ D.nx σ H) ∨ ((Itx K a y).go i H ∧ ∃ N : L2.St → Hp → Prop, (∀ σ' H', N σ' H' → ∃ m', m' < m ∧ W (i + 1) m' σ' H') ∧ ∀ v H', (Itx K a y).yld i H v H' → g v σ H' fun σ2 H2 => tb { D with nx := N, ct := N, bk := D.nx } σ2 H2) := by
  refine ⟨fun i m σ H => m = xs.length - i ∧ i ≤ xs.length ∧ Pv i σ H, ⟨_, rfl, Nat.zero_le _, h0⟩, ?_⟩
  rintro i m σ H ⟨rfl, le, p⟩
  have here := hq i σ H p
  rcases Nat.lt_or_ge i xs.length with lt | ge
  · have at_x := List.getElem?_eq_getElem lt
    refine Or.inr ⟨⟨xs, _, here, at_x, same⟩, Pv (i + 1), fun σ' H' p' => ⟨xs.length - (i + 1), by omega, rfl, lt, p'⟩, ?_⟩
    rintro v H' ⟨T, x, rfl, none_, rfl, known⟩
    exact hs i x T σ H (known xs here) p none_
  · have e : i = xs.length := by omega
    rw [e] at p ⊢
    exact Or.inl ⟨⟨xs, here, same, rfl⟩, hd σ H p⟩
/-- the reading of a comprehension over texts side by side -/
theorem lc_zips {ys : List Str} {m : Nat} {g : TG} {tt : TT} {te : TE} {vs : List Nat} {σ : L2.St} {H1 : Hp} {D : Addr} {Qd : Hp → Prop} (Pv : Nat → Hp → Prop)
    (h0 : Pv 0 (upd H1 D (.lst [])))
    (hs : ∀ i T H, i < m → H T = none → Pv i H → g (.ref T) (wipe σ vs) (upd H T (.tup (ys.map (signAt i)))) fun σ2 H2 => wipe σ2 vs = wipe σ vs ∧ tt σ2 H2 fun b H3 =>
      if b = true then te σ2 H3 fun y H4 => ∃ acc, H4 D = some (.lst acc) ∧ acc.length < sizeLine ∧ Pv (i + 1) (upd H4 D (.lst (acc ++ [y]))) else Pv (i + 1) H3)
    (hd : ∀ H, Pv m H → Qd H) :
    ∃ W : Nat → Nat → Hp → Prop, (∃ m, W 0 m (upd H1 D (.lst []))) ∧ ∀ i k H, W i k H →
      ((Itn ys m).stop i H ∧ Qd H) ∨ ((Itn ys m).go i H ∧ ∃ Nx : Hp → Prop, (∀ H', Nx H' → ∃ m', m' < k ∧ W (i + 1) m' H') ∧
        ∀ v H', (Itn ys m).yld i H v H' → g v (wipe σ vs) H' fun σ2 H2 => wipe σ2 vs = wipe σ vs ∧ tt σ2 H2 fun b H3 =>
          if b = true then te σ2 H3 fun y H4 => ∃ acc, H4 D = some (.lst acc) ∧ acc.length < sizeLine ∧ Nx (upd H4 D (.lst (acc ++ [y]))) else Nx H3) := by
  refine ⟨fun i k H => k = m - i ∧ i ≤ m ∧ Pv i H, ⟨_, rfl, Nat.zero_le _, h0⟩, ?_⟩
  rintro i k H ⟨rfl, le, p⟩
  rcases Nat.lt_or_ge i m with lt | ge
  · refine Or.inr ⟨lt, Pv (i + 1), fun H' p' => ⟨m - (i + 1), by omega, rfl, lt, p'⟩, ?_⟩
    rintro v H' ⟨T, rfl, none_, rfl⟩
    exact hs i T H lt none_ p
  · have e : i = m := by omega
    rw [e] at p ⊢
    exact Or.inl ⟨Nat.le_refl _, hd H p⟩
end Tv

namespace Tv
open PySem PySem.Spec PyProof.Rows L2
/-! ### sorted(t), t a tuple of integers -/
def rSortedT (K : PySem.W.Frag) : List V → Hp → VK → Prop := fun vs H Q => ∃ (a : Addr) (ns : List Int), vs = [V.ref a] ∧ SqT K H a (ns.map V.int) ∧ ns.length < 64 ∧
  ∀ (ms : List Int) (p : Addr), ms.Perm ns → ms.Pairwise (· ≤ ·) → H p = none → Q (.ref p) (upd H p (.lst (ms.map V.int)))
theorem cr_sortedT {X : Cx} : CallR X (.builtin "sorted") (rSortedT X.K) := by
  intro pins s σ H vs us Q I r h
  obtain ⟨a, ns, rfl, hT, few, q⟩ := h
  obtain ⟨its, rv, ⟨⟨cls, dd, dat, sl⟩, at_a, hc, n, hd⟩, _⟩ := I.tuple hT
  simp only at hc hd
  subst hc hd
  rw [Vals.ref1 r]
  have are := rv.ints
  have few' : its.length < 64 := by rw [are.length]; exact few
  refine Calls.call_function_entry kind_sorted plain_sorted entry_sorted (args_sorted1 _) ?_
  unfold Builtin.«sorted»
  refine wpAny_bind (m := checkCount "sorted" 1 1 _) (wpAny_pure (wpAny_bind ?_))
  refine wpAny_collect_seq a (.inr rfl) at_a rfl rfl (fun h1 keep => ?_) (by rw [List.size_toArray]; exact Nat.le_of_lt (Nat.lt_of_lt_of_le few' (by decide)))
  refine wpAny_bind (wpAny_newList ?_)
  have at_l : (h1.push (seqObj "list" its.toArray 0)).get? h1.objs.size = some (seqObj "list" its.toArray 0) := Heap.get?_push_size _ rfl
  refine wpAny_bind (wpAny_holding (wpAny_call_entry slot_list_sort ⟨_, at_l, rfl⟩ entry_list_sort (list_sort_tree at_l are few' fun out ms o1 o2 o3 => ⟨_, rfl, ?_⟩) (args_list_sort _)))
  have I1 : Inv X pins σ H { s with heap := h1 } := I.kept (t' := s.toks) keep
  have small : (ms.map V.int).length ≤ sizeLine := by
    rw [List.length_map, o2.length_eq]
    exact Nat.le_of_lt (Nat.lt_of_lt_of_le few (by decide))
  obtain ⟨ep, at_s⟩ := sortedHeap_at (out := out) (n := 0) at_l
  refine wpAny_pure ⟨_, rfl, .ref h1.objs.size, upd H h1.objs.size (.lst (ms.map V.int)), ?_, rfl, q ms _ o2 o3 (I1.hok.fresh (Nat.le_refl _))⟩
  refine I1.laid (t' := s.toks) (h' := sortedHeap (h1.push (seqObj "list" its.toArray 0)) h1.objs.size its out) (fun b o e => ?_) (Nat.le_refl _) ⟨small, out.toList, ep, vals_of_ints o1, at_s⟩
  have lt := Heap.lt_size e
  rw [sortedHeap_old (Nat.ne_of_lt lt) (by rw [Heap.size_push]; exact Nat.lt_succ_of_lt lt)]
  exact Heap.get?_push_of_some _ e

/-! ### int(t, 3), t a text of at most three of the signs 0, 1, 2 -/
theorem read3 : ∀ ds : List Nat, ds ≠ [] → ds.length ≤ 3 → (∀ d ∈ ds, d < 3) → (int_private% "readNumeral") 0 3 (ds.map (48 + ·)) = (int_private% "Numeral.value") ((num ds : Nat) : Int) := by
  have three : ∀ {a : Nat}, a < 3 → a = 0 ∨ a = 1 ∨ a = 2 := by omega
  intro ds ne few dig
  match ds, ne, few, dig with
  | [a], _, _, dig =>
    rcases three (dig a (by simp)) with rfl | rfl | rfl <;> rfl
  | [a, b], _, _, dig =>
    rcases three (dig a (by simp)) with rfl | rfl | rfl <;> rcases three (dig b (by simp)) with rfl | rfl | rfl <;> rfl
  | [a, b, c], _, _, dig =>
    rcases three (dig a (by simp)) with rfl | rfl | rfl <;> rcases three (dig b (by simp)) with rfl | rfl | rfl <;> rcases three (dig c (by simp)) with rfl | rfl | rfl <;> rfl
theorem keep_all {α : Type} {p : α → Bool} : ∀ l : List α, (∀ c ∈ l, p c = true) → l.takeWhile p = l
  | [], _ => rfl
  | a :: r, h => by
    rw [List.takeWhile_cons, h a List.mem_cons_self, if_pos rfl, keep_all r fun c hc => h c (List.mem_cons_of_mem _ hc)]
theorem clean3 {ds : List Nat} (dig : ∀ d ∈ ds, d < 3) : numTextOf (tab ds) = ds.map (48 + ·) ∧ numSeenOf (tab ds) = ds.map (48 + ·) := by
  have e1 : numTextOf (tab ds) = ds.map (48 + ·) := by
    rw [← tab_cps]
    refine if_pos ?_
    rw [← Array.all_toList, tab_cps, List.all_eq_true]
    intro c hc
    obtain ⟨d, hd, rfl⟩ := List.mem_map.mp hc
    have := dig d hd
    exact decide_eq_true (by omega)
  refine ⟨e1, ?_⟩
  show (numTextOf (tab ds)).takeWhile _ = _
  rw [e1]
  refine keep_all _ fun c hc => ?_
  obtain ⟨d, hd, rfl⟩ := List.mem_map.mp hc
  exact bne_iff_ne.mpr (by omega)
theorem made3 {ds : List Nat} {u t : Tok} (ne : ds ≠ []) (few : ds.length ≤ 3) (dig : ∀ d ∈ ds, d < 3) :
    Gives (Builtin.«int.__new__» ⟨[.type "int", .str (tab ds) u, .int 3 t], []⟩) (.int ((num ds : Nat) : Int)) :=
  .of_wp fun M A E s Q done => by
    obtain ⟨hp, g, d, tk, os⟩ := s
    have sub_ := F.conv_sub_int
    have here_ := F.madeHere_int
    have ty_ : typeOf (.str (tab ds) u) = pure (.type "str") := rfl
    obtain ⟨e1, e2⟩ := clean3 dig
    have all_ := Hx.Hid.mk (And.intro (show (numSeenOf (tab ds)).length ≤ 640 by rw [e2, List.length_map]; omega)
      (And.intro (show (int_private% "readNumeral") 0 3 (numSeenOf (tab ds)) = (int_private% "Numeral.value") ((num ds : Nat) : Int) by rw [e2]; exact read3 ds ne few dig)
        (show ((numSeenOf (tab ds)).length == (numTextOf (tab ds)).length) = true by rw [e1, e2]; exact beq_self_eq_true _)))
    clear e1 e2 ne few dig
    repeat (any_goals (first
      | assumption
      | ((with_reducible show wpAny _ _ ((int_private% "intFromText") _ _ _) _ _ _); refine Hx.wp_textB all_.out.1 all_.out.2.1 all_.out.2.2 ?_)
      | wp_step))
    all_goals first | exact ⟨_, rfl, done⟩ | skip
def rInt3 : List V → Hp → VK → Prop := fun xs H Q => ∃ ds : List Nat, xs = [.str (tab ds), .int 3] ∧ ds ≠ [] ∧ ds.length ≤ 3 ∧ (∀ d ∈ ds, d < 3) ∧ Q (.int ((num ds : Nat) : Int)) H
theorem call_int3 {X : Cx} : CallR X (.type "int") rInt3 := by
  intro pins s σ H xs us Q I r h
  obtain ⟨ds, rfl, ne, few, dig, q⟩ := h
  obtain ⟨u, v, rfl, ⟨t1, rfl⟩, ⟨t2, rfl⟩⟩ := vals2 r
  exact callType_new F.called_int F.newNe_int (Hx.typeCall_int_2 _ _) (Hx.newCall_int_2 _ _) (fun obj => F.initArgs_range_2 obj _ _) F.entry_int_new (made3 ne few dig).meets
    (show (Made.int ((num ds : Nat) : Int)).post _ s from ⟨rfl, .int ((num ds : Nat) : Int), H, I.tok _, ⟨_, rfl⟩, q⟩)
end Tv

namespace Tv
open PySem PySem.Spec PyProof.Rows L2 Evl
mutual
theorem dp_mono {K : PySem.W.Frag} {H H' : Hp} (e : Ex H H') : ∀ {v : V} {d : PyData}, Dp K H v d → Dp K H' v d
  | _, _, .non => .non
  | _, _, .bl b => .bl b
  | _, _, .int i => .int i
  | _, _, .str x => .str x
  | _, _, .lst h a => .lst (ex_l e h) (dps_mono e a)
  | _, _, .tup h a => .tup (ex_t e h) (dps_mono e a)
theorem dps_mono {K : PySem.W.Frag} {H H' : Hp} (e : Ex H H') : ∀ {vs : List V} {ds : List PyData}, DpAll K H vs ds → DpAll K H' vs ds
  | _, _, .nil => .nil
  | _, _, .cons a b => .cons (dp_mono e a) (dps_mono e b)
end
/-- small data: ints to 28, truth values -/
def Sm : PyData → Prop
  | .int i => 0 ≤ i ∧ i ≤ 28
  | .bool _ => True
  | _ => False
/-- what a law shows: a list of at most three small ones or tuples of at most three small ones -/
def Sh (d : PyData) : Prop := Sm d ∨ ∃ es, d = .tuple es ∧ es.length ≤ 3 ∧ ∀ e ∈ es, Sm e
theorem small_shown : ∀ n : Nat, n ≤ 28 → ((toString (n : Int) : Str)).length ≤ 4 ∧ (n : Int).natAbs.log2 < 1920 := by decide +kernel
theorem Sm.shown {d : PyData} (h : Sm d) : d.shown.length ≤ 5 := by
  match d, h with
  | .int i, h =>
    obtain ⟨n, rfl⟩ := Int.eq_ofNat_of_zero_le h.1
    exact Nat.le_succ_of_le (small_shown n (by have := h.2; omega)).1
  | .bool true, _ => decide +kernel
  | .bool false, _ => decide +kernel
theorem Sm.showable {d : PyData} (h : Sm d) : d.showable = true := by
  match d, h with
  | .int i, h =>
    obtain ⟨n, rfl⟩ := Int.eq_ofNat_of_zero_le h.1
    exact decide_eq_true (small_shown n (by have := h.2; omega)).2
  | .bool _, _ => rfl
theorem Sm.noDict {d : PyData} (h : Sm d) : d.hasDict = false ∧ d.depth = 0 := by
  match d, h with
  | .int i, h => exact ⟨rfl, rfl⟩
  | .bool _, _ => exact ⟨rfl, rfl⟩

theorem strs_len (x y : Str) : (x ++ y).length = x.length + y.length := Str.length_append ..
theorem list_len (ts : List Str) : (listText ts).length ≤ piled ts + 4 := by
  unfold listText
  rw [strs_len]
  have e1 : (Str.ofString "]").length = 1 := rfl
  cases ts with
  | nil => decide +kernel
  | cons a r =>
    have h := textFrom_length_pos r 1 (Str.ofString "[" ++ Str.ofString "" ++ a) (by decide)
    have e : textFrom 0 (Str.ofString "[") (a :: r) = textFrom 1 (Str.ofString "[" ++ Str.ofString "" ++ a) r := rfl
    rw [e, h, strs_len, strs_len, piled_cons, e1]
    have e2 : (Str.ofString "[").length = 1 := rfl
    have e3 : (Str.ofString "").length = 0 := rfl
    omega
theorem tuple_len (ts : List Str) : (tupleText ts).length ≤ piled ts + 4 := by
  unfold tupleText
  rw [strs_len, strs_len]
  have e1 : (Str.ofString "(").length = 1 := rfl
  have e2 : (Str.ofString (if (ts.length == 1) = true then ",)" else ")")).length ≤ 2 := by split <;> decide
  have e3 : (Str.join (Str.ofString ", ") ts).length ≤ piled ts := by
    cases ts with
    | nil => decide
    | cons a r =>
      have := join_length_add (a :: r) (by simp)
      omega
  omega
theorem piled_le (n : Nat) : ∀ ds : List PyData, (∀ d ∈ ds, d.shown.length ≤ n) → piled (PyData.shownAll ds) ≤ (n + 2) * ds.length
  | [], _ => Nat.zero_le _
  | d :: r, h => by
    have h1 := h d List.mem_cons_self
    have h2 := piled_le n r fun x hx => h x (List.mem_cons_of_mem _ hx)
    show piled (d.shown :: PyData.shownAll r) ≤ _
    rw [piled_cons, List.length_cons, Nat.mul_add, Nat.mul_one]
    omega
theorem all_of (ds : List PyData) (h : ∀ d ∈ ds, d.showable = true ∧ d.hasDict = false ∧ d.depth ≤ 5) : PyData.showableAll ds = true ∧ PyData.hasDictAll ds = false ∧ PyData.depthAll ds ≤ 5 := by
  induction ds with
  | nil => exact ⟨rfl, rfl, Nat.zero_le _⟩
  | cons d r ih =>
    obtain ⟨a, b, c⟩ := h d List.mem_cons_self
    obtain ⟨a', b', c'⟩ := ih fun x hx => h x (List.mem_cons_of_mem _ hx)
    refine ⟨?_, ?_, ?_⟩
    · show (d.showable && PyData.showableAll r) = true
      rw [a, a']; rfl
    · show (d.hasDict || PyData.hasDictAll r) = false
      rw [b, b']; rfl
    · show max d.depth (PyData.depthAll r) ≤ 5
      omega
theorem Sh.facts {d : PyData} (h : Sh d) : d.shown.length ≤ 30 ∧ d.showable = true ∧ d.hasDict = false ∧ d.depth ≤ 5 := by
  rcases h with h | ⟨es, rfl, few, hs⟩
  · exact ⟨Nat.le_trans h.shown (by decide), h.showable, h.noDict.1, by rw [h.noDict.2]; decide⟩
  · have h1 := piled_le 5 es fun d hd => (hs d hd).shown
    have h2 := tuple_len (PyData.shownAll es)
    obtain ⟨a, b, c⟩ := all_of es fun d hd => ⟨(hs d hd).showable, (hs d hd).noDict.1, by rw [(hs d hd).noDict.2]; decide⟩
    refine ⟨?_, a, b, ?_⟩
    · show (tupleText (PyData.shownAll es)).length ≤ 30
      omega
    · have c' : PyData.depthAll es = 0 := by
        clear h1 h2 a b c few
        induction es with
        | nil => rfl
        | cons d r ih =>
          show max d.depth (PyData.depthAll r) = 0
          rw [(hs d List.mem_cons_self).noDict.2, ih fun x hx => hs x (List.mem_cons_of_mem _ hx)]
          rfl
      show PyData.depthAll es + 1 ≤ 5
      omega
/-- what repr asks of a list that is shown -/
def Fine (d : PyData) : Prop := d.showable = true ∧ d.hasDict = false ∧ d.depth ≤ 20 ∧ d.shown.length ≤ sizeLine
theorem fine_list {ds : List PyData} (few : ds.length ≤ 3) (h : ∀ d ∈ ds, Sh d) : Fine (.list ds) := by
  obtain ⟨a, b, c⟩ := all_of ds fun d hd => (h d hd).facts.2
  refine ⟨a, b, by show PyData.depthAll ds + 1 ≤ 20; omega, ?_⟩
  have h1 := piled_le 30 ds fun d hd => (h d hd).facts.1
  have h2 := list_len (PyData.shownAll ds)
  show (listText (PyData.shownAll ds)).length ≤ sizeLine
  exact Nat.le_trans (by omega : _ ≤ 200) (by decide)

/-! ### what evaluates to data -/
section
variable {K : PySem.W.Frag} {σ : L2.St} {H : Hp} {te ta tb : TE} {t : TA}
def EvD (K : PySem.W.Frag) (te : TE) (σ : L2.St) (H : Hp) (d : PyData) : Prop := ∀ H1, Ex H H1 → ∀ Q : VK, (∀ v H2, Ex H1 H2 → Dp K H2 v d → Q v H2) → te σ H1 Q
def EvR (K : PySem.W.Frag) (te : TE) (σ : L2.St) (H : Hp) (d : PyData) : Prop := ∀ H1, Ex H H1 → ∀ Q : VK, (∀ p H2, Ex H1 H2 → Dp K H2 (.ref p) d → Q (.ref p) H2) → te σ H1 Q
def EvDs (K : PySem.W.Frag) (t : TA) (σ : L2.St) (H : Hp) (ds : List PyData) : Prop := ∀ H1, Ex H H1 → ∀ Q : List V → Hp → Prop, (∀ vs H2, Ex H1 H2 → DpAll K H2 vs ds → Q vs H2) → t σ H1 Q
theorem evds_nil : EvDs K tNil σ H [] := fun H1 _ Q q => q [] H1 (Ex.refl H1) .nil
theorem evds_cons {d : PyData} {ds : List PyData} (h : EvD K te σ H d) (hr : EvDs K t σ H ds) : EvDs K (tCons te t) σ H (d :: ds) := fun H1 e Q q =>
  h H1 e _ fun v H2 e2 dv => hr H2 (e.trans e2) _ fun vs H3 e3 dr => q _ H3 (e2.trans e3) (.cons (dp_mono e3 dv) dr)
theorem dps_len {H : Hp} : ∀ {vs : List V} {ds : List PyData}, DpAll K H vs ds → vs.length = ds.length
  | _, _, .nil => rfl
  | _, _, .cons _ b => congrArg (· + 1) (dps_len b)
theorem evr_lst {ds : List PyData} (h : EvDs K t σ H ds) (z : ds.length ≤ 1000) : EvR K (tLst t) σ H (.list ds) := fun H1 e Q q =>
  h H1 e _ fun vs H2 e2 dv => ⟨by rw [dps_len dv]; exact Nat.le_trans z (by decide), fun p hp => q p _ (e2.trans (Ex.new hp)) (.lst (sq_of upd_same) (dps_mono (Ex.new hp) dv))⟩
theorem evd_int {i : Int} (h : Ev te σ H (.int i)) : EvD K te σ H (.int i) := fun H1 e Q q => h H1 e _ fun H2 e2 => q _ H2 e2 (.int i)
theorem evd_bl {b : Bool} (h : Ev te σ H (.bl b)) : EvD K te σ H (.bool b) := fun H1 e Q q => h H1 e _ fun H2 e2 => q _ H2 e2 (.bl b)
/-- what stands for data at every later heap -/
theorem evd_ref {p : Addr} {d : PyData} (h : Ev te σ H (.ref p)) (hd : Dp K H (.ref p) d) : EvD K te σ H d := fun H1 e Q q => h H1 e _ fun H2 e2 => q _ H2 e2 (dp_mono (e.trans e2) hd)
def dInts (as : List Int) : List PyData := as.map PyData.int
theorem dp_ints {H : Hp} : ∀ as : List Int, DpAll K H (as.map V.int) (dInts as)
  | [] => .nil
  | a :: r => .cons (.int a) (dp_ints r)
theorem evd_tup {as : List Int} (h : EvU te σ H (as.map V.int)) : EvD K te σ H (.tuple (dInts as)) := fun H1 e Q q => h H1 e _ fun p H2 _ e2 hp => q _ H2 e2 (.tup (st_of hp) (dp_ints as))
theorem evd_rep2 {d : PyData} (h : EvD K te σ H d) : EvR K (tOp rRep (tLst (tCons te tNil)) (tC (.int 2))) σ H (.list [d, d]) := fun H1 e Q q =>
  h H1 e _ fun v H2 e2 dv => ⟨by show 1 ≤ sizeLine; decide, fun p hp => ⟨p, 2, [v], rfl, rfl, upd_same, by decide, by decide, by show 1 * 2 ≤ sizeLine; decide, fun r hr => by
    have e3 := (Ex.new (o := .lst [v]) hp).trans (Ex.new (o := .lst [v, v]) hr)
    exact q r _ (e2.trans e3) (.lst (sq_of upd_same) (.cons (dp_mono e3 dv) (.cons (dp_mono e3 dv) .nil)))⟩⟩
theorem et_shows {d : PyData} (f : Fine d) (h1 : EvR K ta σ H d) (h2 : EvR K tb σ H d) :
    EvT (tTest (tOp rNe (tCB (rRepr K) (tCons ta tNil)) (tCB (rRepr K) (tCons tb tNil)))) σ H false := fun H1 e Q q =>
  h1 H1 e _ fun p H2 e2 d1 => ⟨p, d, rfl, d1, f.1, f.2.1, f.2.2.1, f.2.2.2, h2 H2 (e.trans e2) _ fun p2 H3 e3 d2 =>
    ⟨p2, d, rfl, d2, f.1, f.2.1, f.2.2.1, f.2.2.2, rfl, false, by rw [decide_eq_true rfl]; rfl, q H3 (e2.trans e3)⟩⟩
/-- a test that fails: on -/
theorem q_pass {D : Ends} {t : TT} {tu tz : TS} (h : EvT t σ H false) (k : ∀ H1, Ex H H1 → tz D σ H1) : tSeq (tIfS t tu tNext) tz D σ H :=
  q_when h (fun z => nomatch z) fun _ => k
theorem s_pass {D : Ends} {t : TT} {tu : TS} (h : EvT t σ H false) (k : ∀ H1, Ex H H1 → D.nx σ H1) : tIfS t tu tNext D σ H :=
  s_when h (fun z => nomatch z) fun _ => k
theorem ev_defK {sp : Sp} {v : V} {vs : List V} (h : EvA t σ H vs) (hs : ∀ H1, Ex H H1 → ∀ Q : VK, (∀ H2, Ex H1 H2 → Q v H2) → sp vs.reverse H1 Q E0) : Ev (tDefK sp t) σ H v :=
  fun H1 e Q q => h H1 e _ fun H2 e2 => hs H2 (e.trans e2) Q fun H3 e3 => q H3 (e2.trans e3)
theorem eu_def {sp : Sp} {xs vs : List V} (h : EvA t σ H vs) (hs : ∀ H1, Ex H H1 → ∀ Q : VK, (∀ p H2, H1 p = none → Ex H1 H2 → H2 p = some (.tup xs) → Q (.ref p) H2) → sp vs H1 Q E0) : EvU (tDef sp t) σ H xs :=
  fun H1 e Q q => h H1 e _ fun H2 e2 => hs H2 (e.trans e2) Q fun p H3 hp e3 h3 => q p H3 (fresh_back e2 hp) (e2.trans e3) h3
theorem eu_defK {sp : Sp} {xs vs : List V} (h : EvA t σ H vs) (hs : ∀ H1, Ex H H1 → ∀ Q : VK, (∀ p H2, H1 p = none → Ex H1 H2 → H2 p = some (.tup xs) → Q (.ref p) H2) → sp vs.reverse H1 Q E0) : EvU (tDefK sp t) σ H xs :=
  fun H1 e Q q => h H1 e _ fun H2 e2 => hs H2 (e.trans e2) Q fun p H3 hp e3 h3 => q p H3 (fresh_back e2 hp) (e2.trans e3) h3
theorem el_def {sp : Sp} {xs vs : List V} (h : EvA t σ H vs) (hs : ∀ H1, Ex H H1 → ∀ Q : VK, (∀ p H2, H1 p = none → Ex H1 H2 → H2 p = some (.lst xs) → Q (.ref p) H2) → sp vs H1 Q E0) : EvL (tDef sp t) σ H xs :=
  fun H1 e Q q => h H1 e _ fun H2 e2 => hs H2 (e.trans e2) Q fun p H3 hp e3 h3 => q p H3 (fresh_back e2 hp) (e2.trans e3) h3
end
end Tv

namespace Tv
open PySem PySem.Spec PyProof.Rows L2 Evl
/-! ### rows of anything, all ways to take one of each lot -/
abbrev IsRowV (H : Hp) (x : V) (r : List V) : Prop := ∃ a, x = .ref a ∧ H a = some (.tup r)
abbrev RowsV (H : Hp) (xs : List V) (L : List (List V)) : Prop := Paired (IsRowV H) xs L
theorem RowsV.mono {H H' : Hp} (e : Ex H H') : ∀ {xs : List V} {L : List (List V)}, RowsV H xs L → RowsV H' xs L
  | _, _, .nil => .nil
  | _, _, .cons ⟨a, h1, h2⟩ t => .cons ⟨a, h1, e _ _ h2⟩ (RowsV.mono e t)
theorem RowsV.but {p : Addr} {H H' : Hp} (e : ∀ b o, b ≠ p → H b = some o → H' b = some o) (np : ∀ l, H p ≠ some (.tup l)) : ∀ {xs : List V} {L : List (List V)}, RowsV H xs L → RowsV H' xs L
  | _, _, .nil => .nil
  | _, _, .cons ⟨a, h1, h2⟩ t => .cons ⟨a, h1, e _ _ (fun z => np _ (z ▸ h2)) h2⟩ (RowsV.but e np t)
theorem RowsV.len {H : Hp} {xs : List V} {L : List (List V)} (r : RowsV H xs L) : xs.length = L.length := Paired.length r
theorem RowsV.append {H : Hp} : ∀ {xs ys : List V} {L M : List (List V)}, RowsV H xs L → RowsV H ys M → RowsV H (xs ++ ys) (L ++ M)
  | _, _, _, _, .nil, s => s
  | _, _, _, _, .cons r t, s => .cons r (RowsV.append t s)
theorem RowsV.get {H : Hp} : ∀ {xs : List V} {L : List (List V)} {i : Nat} {x : V}, RowsV H xs L → xs[i]? = some x → ∃ as, L[i]? = some as ∧ IsRowV H x as
  | _, _, _, _, .nil, h => by simp at h
  | _, _, 0, _, .cons r t, h => by simp at h; subst h; exact ⟨_, rfl, r⟩
  | _, _, i + 1, _, .cons r t, h => by
    obtain ⟨as, h1, h2⟩ := RowsV.get (i := i) t (by simpa using h)
    exact ⟨as, by simpa using h1, h2⟩
theorem Rows.ofV {H : Hp} : ∀ {xs : List V} {L : List (List Nat)}, RowsV H xs (L.map iv) → Rows H xs L
  | _, [], .nil => .nil
  | _, _ :: _, .cons r t => .cons r (Rows.ofV t)
theorem Rows.toV {H : Hp} : ∀ {xs : List V} {L : List (List Nat)}, Rows H xs L → RowsV H xs (L.map iv)
  | _, _, .nil => .nil
  | _, _, .cons r t => .cons r (Rows.toV t)
def grow (r : List V) (xs : List V) : List (List V) := xs.map fun x => r ++ [x]
def growAll (L : List (List V)) (xs : List V) : List (List V) := L.flatMap fun r => grow r xs
def ways (xss : List (List V)) : List (List V) := xss.foldl growAll [[]]
theorem ways_snoc (xss : List (List V)) (xs : List V) : ways (xss ++ [xs]) = growAll (ways xss) xs := by simp [ways]
theorem ways_take {xss : List (List V)} {i : Nat} {xs : List V} (h : xss[i]? = some xs) : ways (xss.take (i + 1)) = growAll (ways (xss.take i)) xs := by
  rw [List.take_succ, h]
  exact ways_snoc _ _
theorem growAll_len (L : List (List V)) (xs : List V) : (growAll L xs).length = L.length * xs.length := by
  unfold growAll grow
  induction L with
  | nil => simp
  | cons a r ih =>
    rw [List.flatMap_cons, List.length_append, ih, List.length_cons, Nat.succ_mul, List.length_map]
    omega
theorem ways_row : ∀ {xss : List (List V)} {r : List V}, r ∈ ways xss → r.length = xss.length := by
  intro xss
  induction h : xss.length generalizing xss with
  | zero =>
    intro r hr
    obtain rfl := List.eq_nil_of_length_eq_zero h
    simp [ways] at hr
    subst hr
    rfl
  | succ n ih =>
    intro r hr
    have ne : xss ≠ [] := fun e => by rw [e] at h; cases h
    rw [← List.dropLast_concat_getLast ne, ways_snoc] at hr
    unfold growAll grow at hr
    obtain ⟨q, hq, hr⟩ := List.mem_flatMap.mp hr
    obtain ⟨x, _, rfl⟩ := List.mem_map.mp hr
    have := ih (xss := xss.dropLast) (by rw [List.length_dropLast]; omega) hq
    rw [List.length_append, this]
    rfl
theorem grow_take {L : List (List V)} {xs : List V} {i : Nat} {r : List V} (h : L[i]? = some r) : growAll (L.take (i + 1)) xs = growAll (L.take i) xs ++ grow r xs := by
  unfold growAll
  rw [List.take_succ, h, List.flatMap_append]
  simp
theorem grow_one {r xs : List V} {m : Nat} {x : V} (h : xs[m]? = some x) : grow r (xs.take (m + 1)) = grow r (xs.take m) ++ [r ++ [x]] := by
  unfold grow
  rw [List.take_succ, h, List.map_append]
  rfl
theorem ways_iv : ∀ n : Nat, ways (List.replicate n (iv [0, 1, 2])) = (tups n).map iv
  | 0 => rfl
  | n + 1 => by
    rw [List.replicate_succ', ways_snoc, ways_iv n, tups_succ]
    unfold growAll
    rw [List.flatMap_map, List.map_flatMap]
    congr 1
    funext r
    show grow (iv r) (iv [0, 1, 2]) = (ext r).map iv
    unfold grow ext iv
    simp
/-- tuple + a tuple of one: a row more, of anything -/
theorem catA_rowV {K : PySem.W.Frag} {H : Hp} {x y : V} {as : List V} (r : IsRowV H x as) (z : as.length ≤ 100) {q : Addr} (hq : H q = some (.tup [y])) {Q : VK}
    (h : ∀ u H', Ex H H' → IsRowV H' u (as ++ [y]) → Q u H') : rCatA K x (.ref q) H Q := by
  obtain ⟨a, rfl, ha⟩ := r
  refine ⟨a, q, _, _, rfl, rfl, SqT.of ha, SqT.of hq, ?_, fun e => ?_, fun _ e => (by cases e), fun _ _ p hp => ?_⟩
  · exact Nat.le_trans (Nat.add_le_add_right z 1) (by decide)
  · refine h (.ref q) H (Ex.refl H) ⟨q, rfl, ?_⟩
    rw [hq, e]
    rfl
  · exact h (.ref p) _ (Ex.new hp) ⟨p, rfl, upd_same⟩
/-- the inner clause's invariant: the new rows so far -/
abbrev Grown (D : Addr) (H2 : Hp) (L : List (List V)) (xs : List V) (j : Nat) (r : List V) (m : Nat) (H4 : Hp) : Prop :=
  Ex H2 H4 ∧ ∃ zs, H4 D = some (.lst zs) ∧ RowsV H4 zs (growAll (L.take j) xs ++ grow r (xs.take m))
theorem grown_turn {K : PySem.W.Frag} {D : Addr} {H2 H4 : Hp} {L : List (List V)} {xs ys : List V} {j : Nat} {r : List V} {m : Nat} {x y : V} {tr tx : TE} {σ : L2.St} (hD : H2 D = none)
    (R : RowsV H2 ys L) (at_j : ys[j]? = some x) (at_r : L[j]? = some r) (at_y : xs[m]? = some y) (short : r.length ≤ 100) (few : L.length * xs.length ≤ 60000) (p : Grown D H2 L xs j r m H4)
    (evr : Ev tr σ H2 x) (evx : Ev tx σ H4 y) :
    (tOp (rCatA K) tr (tTup (tCons tx tNil))) σ H4 fun y H5 => ∃ acc, H5 D = some (.lst acc) ∧ acc.length < sizeLine ∧ Grown D H2 L xs j r (m + 1) (upd H5 D (.lst (acc ++ [y]))) := by
  obtain ⟨e4, zs, hD4, R4⟩ := p
  refine evr H4 e4 _ fun H5 e5 => ?_
  refine evx H5 e5 _ fun H6 e6 => ⟨by show 1 ≤ sizeLine; decide, fun q hq => ?_⟩
  have e46 := (e5.trans e6).trans (Ex.new (o := .tup [y]) hq)
  have rx : IsRowV (upd H6 q (.tup [y])) x r := by
    obtain ⟨as, g1, g2⟩ := (R.mono (e4.trans e46)).get at_j
    rw [at_r] at g1
    cases g1
    exact g2
  refine catA_rowV rx short upd_same fun u H7 e7 ru => ?_
  have e47 := e46.trans e7
  refine ⟨zs, e47 _ _ hD4, ?_, Ex.mut (e4.trans e47) hD, zs ++ [u], upd_same, ?_⟩
  · rw [R4.len, List.length_append, growAll_len]
    have s1 : (grow r (xs.take m)).length ≤ xs.length := by unfold grow; rw [List.length_map, List.length_take]; omega
    have jl := (List.getElem?_eq_some_iff.mp at_r).1
    have s2 : (L.take j).length + 1 ≤ L.length := by rw [List.length_take]; omega
    have s3 : ((L.take j).length + 1) * xs.length ≤ 60000 := Nat.le_trans (Nat.mul_le_mul_right _ s2) few
    rw [Nat.succ_mul] at s3
    exact Nat.lt_of_le_of_lt (by omega : _ ≤ 60000) (by decide)
  · rw [grow_one at_y, ← List.append_assoc]
    refine RowsV.append ?_ (.cons ?_ .nil)
    · exact (R4.mono e47).but (p := D) (fun b o nb h => by rw [upd_ne nb]; exact h) (fun l h => by rw [e47 _ _ hD4] at h; cases h)
    · obtain ⟨ya, rfl, hya⟩ := ru
      exact ⟨ya, rfl, by rw [upd_ne (fun z => by rw [z, e47 _ _ hD4] at hya; cases hya)]; exact hya⟩
theorem grown_end {D : Addr} {H2 H4 : Hp} {L : List (List V)} {xs : List V} {j : Nat} {r : List V} (at_r : L[j]? = some r) (p : Grown D H2 L xs j r xs.length H4) :
    Ex H2 H4 ∧ ∃ ys, H4 D = some (.lst ys) ∧ RowsV H4 ys (growAll (L.take (j + 1)) xs) := by
  obtain ⟨e4, zs, hD4, R4⟩ := p
  refine ⟨e4, zs, hD4, ?_⟩
  rw [grow_take at_r]
  rw [List.take_length] at R4
  exact R4
/-- an inner clause over a text's signs -/
theorem lc2_str {x : Str} {H0 : Hp} {Qd : Hp → Prop} {Bd : V → Hp → (Hp → Prop) → Prop} (Pv : Nat → Hp → Prop) (h0 : Pv 0 H0)
    (hs : ∀ i c H, x.cps[i]? = some c → Pv i H → Bd (.str ⟨#[c]⟩) H (Pv (i + 1))) (hd : ∀ H, Pv x.cps.size H → Qd H) :
    ∃ W : Nat → Nat → Hp → Prop, (∃ m, W 0 m H0) ∧ ∀ i m H, W i m H → ((Its x).stop i H ∧ Qd H) ∨
      ((Its x).go i H ∧ ∃ Nx : Hp → Prop, (∀ H', Nx H' → ∃ m', m' < m ∧ W (i + 1) m' H') ∧ ∀ x_1 H', (Its x).yld i H x_1 H' → Bd x_1 H' Nx) := by
  refine ⟨fun i m H => m = x.cps.size - i ∧ i ≤ x.cps.size ∧ Pv i H, ⟨_, rfl, Nat.zero_le _, h0⟩, ?_⟩
  rintro i m H ⟨rfl, le, p⟩
  by_cases lt : i < x.cps.size
  · refine Or.inr ⟨lt, Pv (i + 1), fun H' p' => ⟨x.cps.size - (i + 1), by omega, rfl, lt, p'⟩, ?_⟩
    rintro v H' ⟨rfl, c, hc, rfl⟩
    exact hs i c _ hc p
  · obtain rfl : i = x.cps.size := by omega
    exact Or.inl ⟨Nat.le_refl _, hd H p⟩
/-- a text's signs as values -/
def signsOf (x : Str) : List V := x.cps.toList.map fun c => V.str ⟨#[c]⟩
theorem signsOf_at {x : Str} {i c : Nat} (h : x.cps[i]? = some c) : (signsOf x)[i]? = some (.str ⟨#[c]⟩) := by
  unfold signsOf
  rw [List.getElem?_map, Array.getElem?_toList, h]
  rfl
theorem signsOf_len (x : Str) : (signsOf x).length = x.cps.size := by simp [signsOf]
/-- a list n times -/
theorem el_repN {K : PySem.W.Frag} {σ : L2.St} {H : Hp} {ta tb : TE} {xs : List V} {n : Nat} (h : EvL ta σ H xs) (h2 : Ev tb σ H (.int (n : Int))) (z : xs.length * n ≤ 3000) (n2 : n ≤ 1000) :
    EvL (tOp rRep ta tb) σ H (List.replicate n xs).flatten := fun H1 e Q q => h H1 e _ fun p H2 hp e2 hx => h2 H2 (e.trans e2) _ fun H3 e3 =>
  ⟨p, (n : Int), xs, rfl, rfl, e3 _ _ hx, by omega, by omega, by rw [Int.toNat_natCast]; exact Nat.le_trans z (by decide), fun r hr => q r _ (fresh_back (e2.trans e3) hr) ((e2.trans e3).trans (Ex.new hr)) (by
    rw [upd_same, Int.toNat_natCast])⟩
theorem flat_one {α : Type} (n : Nat) (x : α) : (List.replicate n [x]).flatten = List.replicate n x := by
  induction n with
  | zero => rfl
  | succ n ih => rw [List.replicate_succ, List.flatten_cons, ih, List.replicate_succ]; rfl
end Tv

namespace Tv
open PySem PySem.Spec PyProof.Rows L2
/-! ### the way in and the way out, for a promise that knows the guards -/
section
variable {P : Program} {w : World} {K : PySem.W.Frag} {mg mb : Str → Option Value} {z : Shared} {r : Addr} {us : List Value} {is : List Int} {T : Hp}
/-- the object that the script is -/
abbrev scriptObj (us : List Value) : Obj := { cls := .type "list", data := .seq us.toArray }
/-- tracked: at most the script, and that frozen; and the written part doesn't know it then -/
structure Few (K : PySem.W.Frag) (r : Addr) (T : Hp) : Prop where
  one : ∀ {b}, T b ≠ none → b = r ∧ K.lookup r = none
  frz : ∀ {b u}, T b = some u → ∃ o l, u = .frz o (.lst l)
theorem Few.gone (W : Few K r T) {b : Addr} {o : Obj} (known : K.lookup b = some o) : T b = none := by
  cases hb : T b with
  | none => rfl
  | some u =>
    obtain ⟨eb, nk⟩ := W.one (b := b) (by rw [hb]; intro q; cases q)
    rw [← eb, known] at nk
    cases nk
theorem Few.dict (W : Few K r T) (at_r : z.heap.get? r = some (scriptObj us)) {b : Addr} {o : Obj} {es : Array DictEntry} {ep : Nat}
    (hb : z.heap.get? b = some o) (hd : o.data = .dict es ep) : T b = none := by
  cases ht : T b with
  | none => rfl
  | some u =>
    obtain ⟨rfl, _⟩ := W.one (b := b) (by rw [ht]; intro q; cases q)
    obtain rfl : scriptObj us = o := Option.some.inj (at_r.symm.trans hb)
    exact nomatch (show Data.seq us.toArray _ = Data.dict es ep from hd)
theorem Few.names (W : Few K r T) (at_r : z.heap.get? r = some (scriptObj us)) {b : Addr} {m : Str → Option Value} (h : z.heap.Ns b m) : (hidT z.heap T).Ns b m := by
  obtain ⟨o, es, ep, h1, h2, h3⟩ := h
  exact ⟨o, es, ep, hidT_get h1 (W.dict at_r h1 h2), h2, h3⟩
theorem run_script {sp : Sp} {lev : Nat} {f : Addr} {fd : FuncData} {x : Str} (KZ : K.In z.heap) (gl : z.heap.Ns mainGlobals mg) (bl : z.heap.Ns builtinsNs mb)
    (bb : ∀ y : Str, y ≠ "__name__" → mb y = bootBuiltins y) (nolim : z.heap.NoLimit) (nogen : z.gens = #[]) (at_r : z.heap.get? r = some (scriptObj us))
    (room : Room lev callerA) (bind : ∀ (s : Shared) (v : Value), BindsTo s fd ⟨[v], []⟩ [(x, v)])
    (G : ∀ base : Heap, K.In base → base.Ns mainGlobals mg → FnG P w K mg base lev f fd [x] sp)
    (W : Few K r T) (ok : HOk P w T z.heap) (start : sp [.ref r] T (fun v _ => v = .bl true) fun _ _ _ => False) :
    codeAny (model P w) callerA (.call (.ref f) ⟨[.ref r], []⟩) (fun res s' => res = .ok (.ret (.bool true)) ∧ OldK z.heap s'.heap ∧ s'.os = z.os ∧ AllBare s'.gens) z := by
  have kb : K.In (hidT z.heap T) := fun b o known => hidT_get (KZ b o known) (W.gone known)
  have gb := W.names at_r gl
  obtain ⟨mc, l1, l2⟩ := nolim
  have md : Mod K mg (hidT z.heap T) := ⟨kb, gb, ⟨mb, W.names at_r bl, bb⟩, ⟨mc, W.names at_r l1, l2⟩⟩
  have none_in : ∀ b : Addr, b ∉ ([] : List Addr) := fun b q => nomatch q
  have env : Env0 P w K mg (hidT z.heap T) callerA [] z T :=
    ⟨rfl, md, fun b o q => of_hidT q, Nat.le_of_eq (hidT_size _ _), trivial, fun b q => absurd q (none_in b), ok, .of_eq nogen⟩
  have ran := (G _ kb gb).run callerA [] z T ⟨[.ref r], []⟩ [.ref r] [.ref r] _ _ room rfl env (bind z (.ref r)) (.cons rfl .nil) start
  refine codeAny_mono ran fun res s' got => ?_
  match res, got with
  | .error _, bad => exact bad.elim
  | .ok .next, bad => exact bad.elim
  | .ok .brk, bad => exact bad.elim
  | .ok .cont, bad => exact bad.elim
  | .ok (.ret u), ⟨v, T', same_os, bare, kept, ok', rel, yes0⟩ =>
    have yes' : v = .bl true := yes0
    subst yes'
    have eu : u = .bool true := rel
    rw [eu]
    refine ⟨rfl, OldK.of_keep fun b o hb => ?_, same_os, bare⟩
    cases ht : T b with
    | none => exact kept.keep b o hb ht (none_in b) (by simp)
    | some v' =>
      obtain ⟨o1, l, rfl⟩ := W.frz ht
      have old := (ok b _ ht).1
      rw [hb] at old
      rw [Option.some.inj old]
      exact (ok' b _ (kept.frzs b o1 _ ht)).1
theorem run_law {sp : Sp} {lev : Nat} {f : Addr} {fd : FuncData} {x : Str} (KZ : K.In z.heap) (gl : z.heap.Ns mainGlobals mg) (bl : z.heap.Ns builtinsNs mb)
    (bb : ∀ y : Str, y ≠ "__name__" → mb y = bootBuiltins y) (nolim : z.heap.NoLimit) (nogen : z.gens = #[]) (at_r : z.heap.get? r = some (scriptObj us))
    (nums : IntsAre us is) (few : is.length ≤ sizeLine)
    (room : Room lev callerA) (bind : ∀ (s : Shared) (v : Value), BindsTo s fd ⟨[v], []⟩ [(x, v)])
    (G : ∀ base : Heap, K.In base → base.Ns mainGlobals mg → FnG P w K mg base lev f fd [x] sp)
    (start : ∀ T : Hp, SqL K T r (is.map V.int) → sp [.ref r] T (fun v _ => v = .bl true) fun _ _ _ => False) :
    codeAny (model P w) callerA (.call (.ref f) ⟨[.ref r], []⟩) (fun res s' => res = .ok (.ret (.bool true)) ∧ OldK z.heap s'.heap ∧ s'.os = z.os ∧ AllBare s'.gens) z := by
  have vals : Vals (is.map V.int) us := vals_ints nums
  have as_many := nums.length
  cases known : K.lookup r with
  | some o =>
    have eo : scriptObj us = o := Option.some.inj (at_r.symm.trans (KZ r o known))
    subst eo
    refine run_script (T := fun _ => none) KZ gl bl bb nolim nogen at_r room bind G ⟨fun q => absurd rfl q, fun q => nomatch q⟩ (fun b u q => nomatch q) (start _ (.inr ⟨_, us.toArray, _, known, rfl, rfl, rfl, ?_, ?_⟩))
    · rw [List.size_toArray, as_many]
      exact few
    · simpa using vals
  | none =>
    have here : ∀ {b : Addr} {u : HO}, (if b = r then some (HO.frz (scriptObj us) (.lst (is.map V.int))) else none) = some u → b = r ∧ u = .frz (scriptObj us) (.lst (is.map V.int)) := fun {b u} q => by
      by_cases eb : b = r
      · rw [if_pos eb] at q
        exact ⟨eb, (Option.some.inj q).symm⟩
      · rw [if_neg eb] at q
        cases q
    refine run_script (T := fun b => if b = r then some (.frz (scriptObj us) (.lst (is.map V.int))) else none) KZ gl bl bb nolim nogen at_r room bind G ⟨fun {b} q => ?_, fun {b u} q => ?_⟩ (fun b u q => ?_)
      (start _ (.inl (.inr ⟨scriptObj us, if_pos rfl⟩)))
    · by_cases eb : b = r
      · exact ⟨eb, known⟩
      · exact absurd (if_neg eb) q
    · exact ⟨_, _, (here q).2⟩
    · obtain ⟨rfl, rfl⟩ := here q
      exact ⟨at_r, by rw [List.length_map]; exact few, us, _, vals, at_r⟩
end
/-- a row's end, from the promise of its law -/
theorem ends {l : PySem.W.OpenLaw} {q : Program} {loose : List Str} {XP : (Str → Option Value) → Heap → Prop} {YP : World → Heap → Prop} {d : DefRec} {K : Params → PySem.W.Frag} {lev : Nat} {x : Str} {sp : PySem.W.Frag → Sp}
    (size : l.most = some 63) (nodef : d.params.defaults = []) (room : Room lev callerA) (inY : ∀ (w : World) (h : Heap), YP w h → (K w.params).In h)
    (G : ∀ (w : World) (mg : Str → Option Value) (f : Addr) (h : Heap), (K w.params).In h → h.Ns mainGlobals mg → mg d.name = some (.ref f) →
      ∃ fd : FuncData, (∀ (s : Shared) (v : Value), BindsTo s fd ⟨[v], []⟩ [(x, v)]) ∧ ∀ base : Heap, (K w.params).In base → base.Ns mainGlobals mg → FnG l.prog w (K w.params) mg base lev f fd [x] (sp (K w.params)))
    (start : ∀ (K : PySem.W.Frag) (T : Hp) (r : Addr) (is : List Int), is.length ≤ 63 → SqL K T r (is.map V.int) → sp K [.ref r] T (fun v _ => v = .bl true) fun _ _ _ => False) :
    PySem.W.WalkO q loose XP YP l.row.toRowW d [] (fun g vs => PySem.call g vs) := by
  refine Att.attach_call size nodef fun w _ z mg mb f _ _ _ _ r us is H Y _ _ _ named at_r nums few nogen => ?_
  have KZ := inY w _ Y
  obtain ⟨fd, bind, F⟩ := G w mg f _ KZ H.T.g named
  exact run_law KZ H.T.g H.T.b H.T.builtins H.T.nolimit nogen at_r nums (Nat.le_trans few (by decide)) room bind F fun T S => start _ T r is few S
end Tv

namespace Tv
open PySem PySem.Spec PyProof.Rows L2 Evl
def top (i : Nat) : Stmt := PySem.Challenge.pw_threevalues_k03_whole_tables_put_togethe.main.body.getD i (.Pass ⟨0, 0, 0, 0⟩)
section
variable {P : Program} {w : World} {K : PySem.W.Frag} {mg : Str → Option Value} {base : Heap} {f : Addr} {fd : FuncData}

/-! ### where draws come from -/
/-- all but what stands at p is as it was -/
def But (p : Addr) (H H' : Hp) : Prop := ∀ b o, b ≠ p → H b = some o → H' b = some o
theorem But.trans {p : Addr} {H H1 H2 : Hp} (a : But p H H1) (b : But p H1 H2) : But p H H2 := fun c o n e => b c o n (a c o n e)
theorem But.of {p : Addr} {H H' : Hp} (e : Ex H H') : But p H H' := fun b o _ h => e b o h
theorem But.upd {p : Addr} {H : Hp} {o : HO} : But p H (upd H p o) := fun b u n e => by rw [upd_ne n]; exact e
/-- a spring at p -/
def Spr (H : Hp) (p : Addr) : Prop := ∃ x m c : Int, H p = some (.lst [.int x, .int m, .int c]) ∧ 0 ≤ x ∧ 0 ≤ m ∧ m < 2147483647
def spDraw : Sp := fun vs H Q _ => ∃ (p : Addr) (n : Int), vs = [.ref p, .int n] ∧ Spr H p ∧ 0 < n ∧ n ≤ 1000000 ∧
  ∀ (d : Int) (H' : Hp), 0 ≤ d → d < n → Spr H' p → But p H H' → Q (.int d) H'
abbrev slaw_draw : Stmt := top 23
abbrev Nlaw_draw : List Str := ["spring", "size", "digit", "far", "mixed"]
theorem sclaw_draw : FnScope Nlaw_draw ["spring", "size"] (defScope slaw_draw) := ⟨rfl, rfl, rfl, by decide +kernel, rfl, by decide +kernel, by decide +kernel⟩
theorem ok_draw (F : Fun K "_law_draw" "_law_draw" slaw_draw f fd) (B : Blt mg) : FnG P w K mg base 1 f fd ["spring", "size"] spDraw := by
  refine fnG F sclaw_draw (fun vs H Q E h => ?_) (fun cdv A fr s H vs Q E hr gd h => ?_)
  · obtain ⟨p, n, rfl, _⟩ := h
    rfl
  · obtain ⟨p, n, rfl, ⟨x, m, c, hp, x0, m0, m1⟩, n0, n1, k⟩ := h
    refine ⟨_, (pss_cons (ps_asg (pe_op op_add (pe_ix ix_list (pv 0) pe_int (fun _ _ => rfl)) pe_int) (pg_sub (pv 0) pe_int set_list))
  (pss_cons (ps_asg (pe_op op_mod (pe_callTy call_int1 (by rfl) B.m_int (by decide +kernel) (pa_cons (pe_op op_add (pe_op op_add (pe_op op_mul (pe_ix ix_list (pv 0) pe_int (fun _ _ => rfl)) pe_int) (pe_op op_mul pe_int (pe_ix ix_list (pv 0) pe_int (fun _ _ => rfl)))) pe_int) pa_nil)) pe_int) (pg_sub (pv 0) pe_int set_list))
  (pss_cons (ps_if (pt_cmpR op_gt (pe_ix ix_list (pv 0) pe_int (fun _ _ => rfl)) pe_int (nomark _)) (pss_cons (ps_asg (pe_callB call_divmod (by rfl) B.m_divmod (by decide +kernel) (pa_cons (pe_ix ix_list (pv 0) pe_int (fun _ _ => rfl)) (pa_cons (pv 1) pa_nil))) (pg_tup rfl (pgs_cons (pg_sub (pv 0) pe_int set_list) (pgs_cons (pg_name (i := 2) sclaw_draw.nd rfl (Or.inl rfl)) pgs_nil))))
  (pss_one (ps_ret (pv 2)))) pss_nil)
  (pss_cons (ps_set (i := 3) sclaw_draw.nd rfl (Or.inl rfl) (pe_op op_add (pe_ix ix_list (pv 0) pe_int (fun _ _ => rfl)) pe_int))
  (pss_cons (ps_set (i := 4) sclaw_draw.nd rfl (Or.inl rfl) (pe_op op_mod (pe_callTy call_int1 (by rfl) B.m_int (by decide +kernel) (pa_cons (pe_op op_add (pe_op op_mul (pv 3) (pe_ix ix_list (pv 0) pe_int (fun _ _ => rfl))) (pe_ix ix_list (pv 0) pe_int (fun _ _ => rfl))) pa_nil)) pe_int))
  (pss_one (ps_ret (pe_op op_mod (pe_callTy call_int1 (by rfl) B.m_int (by decide +kernel) (pa_cons (pe_op op_fdiv (pv 4) pe_int) pa_nil)) (pv 1))))))))), ?_⟩
    have a2 : ∀ y z v : V, atI [y, z, v] 2 = some v := fun _ _ _ => rfl
    have a1 : ∀ y z v : V, atI [y, z, v] 1 = some z := fun _ _ _ => rfl
    have a0 : ∀ y z v : V, atI [y, z, v] 0 = some y := fun _ _ _ => rfl
    -- spring[2] = spring[2] + 1
    refine ⟨_, rfl, p, _, 2, _, rfl, rfl, SqL.of hp, a2 _ _ _, c, 1, rfl, rfl, _, rfl, p, _, 2, 2, rfl, rfl, hp, rfl, ?_⟩
    -- spring[1] = ..
    refine ⟨_, rfl, p, _, 1, _, rfl, rfl, SqL.of upd_same, a1 _ _ _, m, _, rfl, rfl, Or.inr ⟨by decide, by decide⟩, _, rfl, p, _, 2, _, rfl, rfl, SqL.of upd_same, a2 _ _ _, _, _, rfl, rfl, Or.inl ⟨by decide, by decide⟩, _, _, rfl, rfl, _, _, rfl, rfl, .inl ⟨_, rfl, _, _, rfl, rfl, (by show (0 : Int) < 2147483647; decide), _, rfl, p, _, 1, 1, rfl, rfl, upd_same, rfl, ?_⟩⟩
    -- if spring[0] > 0
    refine ⟨_, rfl, p, _, 0, _, rfl, rfl, SqL.of upd_same, a0 _ _ _, x, 0, rfl, rfl, _, rfl, ?_⟩
    refine ite2 (fun hx => ?_) (fun hx => ?_)
    · -- spring[0], digit = divmod(spring[0], size); return digit
      refine ⟨_, rfl, p, _, 0, _, rfl, rfl, SqL.of upd_same, a0 _ _ _, _, rfl, x, n, rfl, ⟨n0, by omega⟩, fun q hq => ?_⟩
      have np : p ≠ q := ne_of_none upd_same hq
      refine ⟨q, _, rfl, SqT.of upd_same, rfl, _, _, rfl, _, rfl, p, _, 0, 0, rfl, rfl, (by rw [upd_ne np]; exact upd_same), rfl, _, _, rfl, rfl, ?_⟩
      refine ⟨_, rfl, ?_⟩
      have d0 : 0 ≤ x % n := Int.emod_nonneg _ (by omega)
      have d1 : x % n < n := Int.emod_lt_of_pos _ n0
      have e0 : 0 ≤ x / n := Int.ediv_nonneg x0 (by omega)
      have g0 : 0 ≤ (m * 69621 + 40503 * (c + 1) + 1) % 2147483647 := Int.emod_nonneg _ (by decide)
      have g1 : (m * 69621 + 40503 * (c + 1) + 1) % 2147483647 < 2147483647 := Int.emod_lt_of_pos _ (by decide)
      refine k (x % n) _ d0 d1 ⟨_, _, _, upd_same, e0, g0, g1⟩ ?_
      intro b o nb e
      rw [upd_ne nb, upd_ne (ne_of_none (H := upd (upd H p _) p _) (by rw [upd_ne nb, upd_ne nb]; exact e) hq), upd_ne nb, upd_ne nb]
      exact e
    · -- far = ..; mixed = ..; return ..
      refine ⟨_, rfl, p, _, 1, _, rfl, rfl, SqL.of upd_same, a1 _ _ _, _, _, rfl, rfl, ?_⟩
      have g0 : 0 ≤ (m * 69621 + 40503 * (c + 1) + 1) % 2147483647 := Int.emod_nonneg _ (by decide)
      have g1 : (m * 69621 + 40503 * (c + 1) + 1) % 2147483647 < 2147483647 := Int.emod_lt_of_pos _ (by decide)
      refine ⟨_, rfl, _, rfl, p, _, 1, _, rfl, rfl, SqL.of upd_same, a1 _ _ _, _, _, rfl, rfl, Or.inr ⟨by show -(2 ^ 64) < (m * 69621 + 40503 * (c + 1) + 1) % 2147483647; omega, by show (m * 69621 + 40503 * (c + 1) + 1) % 2147483647 < 2 ^ 64; omega⟩, _, rfl, p, _, 2, _, rfl, rfl, SqL.of upd_same, a2 _ _ _, _, _, rfl, rfl, .inl ⟨_, rfl, _, _, rfl, rfl, (by show (0 : Int) < 2147483629; decide), ?_⟩⟩
      refine ⟨_, rfl, _, _, rfl, rfl, ⟨by decide, by decide⟩, .inl ⟨_, rfl, _, rfl, _, n, rfl, rfl, n0, ?_⟩⟩
      refine k _ _ (Int.emod_nonneg _ (by omega)) (Int.emod_lt_of_pos _ n0) ⟨_, _, _, upd_same, x0, g0, g1⟩ ?_
      intro b o nb e
      rw [upd_ne nb, upd_ne nb]
      exact e
/-- one of a menu -/
def spOf (K : PySem.W.Frag) : Sp := fun vs H Q _ => ∃ (p a : Addr) (xs : List V), vs = [.ref p, .ref a] ∧ a ≠ p ∧ Spr H p ∧ SqL K H a xs ∧ xs ≠ [] ∧
  xs.length ≤ 1000000 ∧ ∀ (v : V) (H' : Hp), v ∈ xs → Spr H' p → But p H H' → Q v H'
abbrev slaw_of : Stmt := top 24
abbrev Nlaw_of : List Str := ["spring", "menu"]
theorem sclaw_of : FnScope Nlaw_of ["spring", "menu"] (defScope slaw_of) := ⟨rfl, rfl, rfl, by decide +kernel, rfl, by decide +kernel, by decide +kernel⟩
theorem seq_but {p a : Addr} {H H' : Hp} {xs : List V} (b : But p H H') (ne : a ≠ p) (h : SqL K H a xs) : SqL K H' a xs := by
  rcases h with (h | ⟨o, h⟩) | h
  · exact .inl (.inl (b _ _ ne h))
  · exact .inl (.inr ⟨o, b _ _ ne h⟩)
  · exact .inr h
theorem ok_of (F : Fun K "_law_of" "_law_of" slaw_of f fd) (B : Blt mg) (D__law_draw : DefG P w K mg base "_law_draw" ["spring", "size"] 1 spDraw) :
    FnG P w K mg base 2 f fd ["spring", "menu"] (spOf K) := by
  refine fnG F sclaw_of (fun vs H Q E h => ?_) (fun cdv A fr s H vs Q E hr gd h => ?_)
  · obtain ⟨p, a, xs, rfl, _⟩ := h
    rfl
  · obtain ⟨p, a, xs, rfl, nap, S, hS, ne, many, k⟩ := h
    have some_ : 0 < xs.length := List.length_pos_iff.mpr ne
    refine ⟨_, (pss_one (ps_ret (pe_ix ix_list (pv 1) (pe_def D__law_draw (hr.mono (by decide)) gd rfl (pa_cons (pv 0) (pa_cons (pe_callB call_len (by rfl) B.m_len (by decide +kernel) (pa_cons (pv 1) pa_nil)) pa_nil))) (fun _ _ => rfl)))), ?_⟩
    refine ⟨_, rfl, _, rfl, _, rfl, .ref a, xs.length, rfl, Or.inl ⟨xs, hS, rfl⟩, ?_⟩
    refine ⟨p, _, rfl, S, by omega, by omega, fun d H' d0 d1 S' bt => ?_⟩
    have lt : d.toNat < xs.length := by omega
    have e1 : xs[d.toNat]? = some xs[d.toNat] := List.getElem?_eq_getElem lt
    refine ⟨a, xs, d, _, rfl, rfl, seq_but bt nap hS, at_of (j := d.toNat) (by omega) e1, ?_⟩
    exact k _ H' (List.mem_of_getElem? e1) S' bt
/-- the springs -/
def spSpring (K : PySem.W.Frag) : Sp := fun vs H Q _ => ∃ (a : Addr) (ns : List Int) (n : Int), vs = [.ref a, .int n] ∧ SqL K H a (ns.map V.int) ∧
  ns.length ≤ 63 ∧ 0 ≤ n ∧ n ≤ 10 ∧ ∀ (p : Addr) (H' : Hp), H p = none → Ex H H' → Spr H' p → Q (.ref p) H'
abbrev slaw_spring : Stmt := top 22
abbrev Nlaw_spring : List Str := ["cells", "k", "cell", "mixed", "number"]
theorem sclaw_spring : FnScope Nlaw_spring ["cells", "k"] (defScope slaw_spring) := ⟨rfl, rfl, rfl, by decide +kernel, rfl, by decide +kernel, by decide +kernel⟩
theorem ok_spring (F : Fun K "_law_spring" "_law_spring" slaw_spring f fd) (B : Blt mg) : FnG P w K mg base 1 f fd ["cells", "k"] (spSpring K) := by
  refine fnG F sclaw_spring (fun vs H Q E h => ?_) (fun cdv A fr s H vs Q E hr gd h => ?_)
  · obtain ⟨p, n, m, rfl, _⟩ := h
    rfl
  · obtain ⟨a, ns, n, rfl, hS, many, n0, n1, k⟩ := h
    refine ⟨_, (Evl.pss_cut (ps_set (i := 2) sclaw_spring.nd rfl (Or.inl rfl) (pe_ifExp (pt_cmpR op_lt (pv 1) (pe_callB call_len (by rfl) B.m_len (by decide +kernel) (pa_cons (pv 0) pa_nil)) (nomark _)) (pe_ix ix_list (pv 0) (pv 1) (fun _ _ => rfl)) (pe_op op_add (pe_op op_mul pe_int (pv 1)) pe_int)))
  (pss_cons (ps_set (i := 3) sclaw_spring.nd rfl (Or.inl rfl) (pe_op op_add pe_int (pe_op op_mul pe_int (pv 1))))
  (pss_cons (ps_for PassesOwn.never rfl (pi_list (pe_op op_cat (pe_slice sl_list (pv 0) po_none (po_some pe_int)) (pe_lst (pa_cons (pv 2) pa_nil)))) (pg_name (i := 4) sclaw_spring.nd rfl (Or.inl rfl)) (pss_one (ps_set (i := 3) sclaw_spring.nd rfl (Or.inl rfl) (pe_op op_mod (pe_callTy call_int1 (by rfl) B.m_int (by decide +kernel) (pa_cons (pe_op op_add (pe_op op_add (pe_op op_mul (pv 3) pe_int) (pe_callTy call_int1 (by rfl) B.m_int (by decide +kernel) (pa_cons (pv 4) pa_nil))) (pe_op op_mul pe_int (pv 1))) pa_nil)) pe_int))))
  (pss_one (ps_ret (pe_lst (pa_cons (pe_ifExp (PW.pt (pw_or (pt_cmpR op_lt (pv 2) pe_int (nomark _)) (pw_or1 (pt_cmpR op_ge (pv 2) (pe_op op_pow pe_int pe_int) (nomark _))))) (pe_callB call_abs (by rfl) B.m_abs (by decide +kernel) (pa_cons (pv 2) pa_nil)) pe_int) (pa_cons (pv 3) (pa_cons pe_int pa_nil))))))))), ?_⟩
    -- cell
    refine ⟨fun σ H1 => H1 = H ∧ ∃ cell : Int, σ = [some (.ref a), some (.int n), some (.int cell), none, none], ?_, ?_⟩
    · refine ⟨_, rfl, _, rfl, _, _, rfl, Or.inl ⟨_, hS, rfl⟩, n, _, rfl, rfl, _, rfl, ?_⟩
      rw [List.length_map]
      by_cases c : n < (ns.length : Int)
      · rw [decide_eq_true c]
        refine iteT ⟨_, rfl, _, rfl, a, _, n, .int (ns.getD n.toNat 0), rfl, rfl, hS, at_of (j := n.toNat) (by omega) ?_, rfl, _, rfl⟩
        have lt : n.toNat < ns.length := by omega
        simp [List.getD_eq_getElem?_getD, lt]
      · rw [decide_eq_false c]
        exact iteF ⟨_, rfl, _, _, rfl, rfl, Or.inl ⟨by decide, by decide⟩, _, _, rfl, rfl, rfl, _, rfl⟩
    rintro σ H1 ⟨rfl, cell, rfl⟩
    -- mixed; the loop
    refine ⟨_, rfl, _, _, rfl, rfl, Or.inl ⟨by decide, by decide⟩, _, _, rfl, rfl, ?_⟩
    refine ⟨_, rfl, 8, rfl, a, _, rfl, hS, fun q hq => ?_⟩
    have fst : cutV (ns.map V.int) none (some 8) = (ns.take 8).map V.int := by
      unfold cutV
      rw [HT.sIx_none, show (8 : Int) = ((8 : Nat) : Int) from rfl, HT.sIx_nat, List.drop_zero, List.length_map, Nat.sub_zero, List.map_take, ← List.map_take, ← List.map_take]
      congr 1
      by_cases h8 : 8 ≤ ns.length
      · rw [Nat.min_eq_left h8]
      · rw [Nat.min_eq_right (by omega), List.take_of_length_le (Nat.le_refl _), List.take_of_length_le (by omega)]
    rw [fst]
    refine ⟨_, rfl, (by show 1 ≤ sizeLine; decide), fun q2 hq2 => ?_⟩
    have nq : q ≠ q2 := ne_of_none upd_same hq2
    refine ⟨q, q2, _, _, rfl, rfl, (by rw [upd_ne nq]; exact upd_same), upd_same, ?_, fun q3 hq3 => ?_⟩
    · rw [List.length_map, List.length_take]
      have : min 8 ns.length + 1 ≤ 9 := by omega
      exact Nat.le_trans this (by decide)
    have e3 : (ns.take 8).map V.int ++ [V.int cell] = (ns.take 8 ++ [cell]).map V.int := by rw [List.map_append]; rfl
    rw [e3]
    have ex : ∀ b o, H1 b = some o → upd (upd (upd H1 q (.lst ((ns.take 8).map V.int))) q2 (.lst [V.int cell])) q3 (.lst ((ns.take 8 ++ [cell]).map V.int)) b = some o := fun b o e => by
      have e1 : upd H1 q (.lst ((ns.take 8).map V.int)) b = some o := by rw [upd_ne (ne_of_none e hq)]; exact e
      have e2 : upd (upd H1 q (.lst ((ns.take 8).map V.int))) q2 (.lst [V.int cell]) b = some o := by rw [upd_ne (ne_of_none e1 hq2)]; exact e1
      rw [upd_ne (ne_of_none e2 hq3)]
      exact e2
    refine ⟨q3, rfl, ⟨_, SqL.of upd_same⟩, for_list (K := K) (a := q3) (xs := (ns.take 8 ++ [cell]).map V.int)
      (fun i σ H2 => H2 = upd (upd (upd H1 q (.lst ((ns.take 8).map V.int))) q2 (.lst [V.int cell])) q3 (.lst ((ns.take 8 ++ [cell]).map V.int)) ∧
        ∃ (m : Int) (v : Option V), σ = [some (.ref a), some (.int n), some (.int cell), some (.int m), v] ∧ 0 ≤ m ∧ m < 2147483647)
      ⟨rfl, _, none, rfl, by omega, by omega⟩ (fun i σ H2 _ ⟨e, _⟩ => by rw [e]; exact SqL.of upd_same) ?_ ?_⟩
    · rintro i y σ H2 hi ⟨rfl, m, v, rfl, m0, m1⟩
      obtain ⟨z, rfl⟩ : ∃ z, y = V.int z := by
        rw [List.getElem?_map] at hi
        cases e : (ns.take 8 ++ [cell])[i]? with
        | none => rw [e] at hi; cases hi
        | some z => rw [e] at hi; exact ⟨z, (Option.some.inj hi).symm⟩
      refine ⟨_, rfl, _, _, rfl, rfl, Or.inr ⟨by decide, by decide⟩, _, rfl, .inl ⟨_, rfl, _, _, rfl, rfl, _, rfl, _, _, rfl, rfl, Or.inl ⟨by decide, by decide⟩, _, _, rfl, rfl, .inl ⟨_, rfl, _, _, rfl, rfl, (by show (0 : Int) < 2147483647; decide), ?_⟩⟩⟩
      exact ⟨rfl, _, _, rfl, Int.emod_nonneg _ (by decide), Int.emod_lt_of_pos _ (by decide)⟩
    · rintro σ H2 ⟨rfl, m, v, rfl, m0, m1⟩
      have fin : ∀ (z : Int), 0 ≤ z → ∀ (r : Addr), upd (upd (upd H1 q (.lst ((ns.take 8).map V.int))) q2 (.lst [V.int cell])) q3 (.lst ((ns.take 8 ++ [cell]).map V.int)) r = none →
          Q (.ref r) (upd (upd (upd (upd H1 q (.lst ((ns.take 8).map V.int))) q2 (.lst [V.int cell])) q3 (.lst ((ns.take 8 ++ [cell]).map V.int))) r (.lst [V.int z, V.int m, V.int 0])) := fun z z0 r hr =>
        k r _ (fresh_back ex hr) (fun b o e => by rw [upd_ne (ne_of_none (ex b o e) hr)]; exact ex b o e) ⟨_, _, _, upd_same, z0, m0, m1⟩
      have big : (fun i j : Int => V.int (i ^ j.toNat)) 10 18 = V.int 1000000000000000000 := by decide
      refine ⟨_, rfl, _, _, rfl, rfl, _, rfl, ?_⟩
      by_cases c1 : cell < 0
      · rw [decide_eq_true c1]
        refine iteT (iteT ⟨_, rfl, _, rfl, _, rfl, (by show 3 ≤ sizeLine; decide), fun r hr => ?_⟩)
        rw [if_pos c1]
        exact fin _ (by omega) r hr
      · rw [decide_eq_false c1]
        refine iteF ⟨_, rfl, _, _, rfl, rfl, ⟨by decide, by decide, by decide⟩, _, _, rfl, rfl, _, rfl, ?_⟩
        refine ite2 (fun c2 => ?_) (fun c2 => ?_)
        · refine ⟨_, rfl, _, rfl, _, rfl, (by show 3 ≤ sizeLine; decide), fun r hr => ?_⟩
          rw [if_neg c1]
          exact fin _ (by omega) r hr
        · exact ⟨_, rfl, (by show 3 ≤ sizeLine; decide), fun r hr => fin 0 (Int.le_refl 0) r hr⟩
end
end Tv

namespace Tv
open PySem PySem.Spec PyProof.Rows L2 Evl
section
variable {P : Program} {w : World} {K : PySem.W.Frag} {mg : Str → Option Value} {base : Heap} {f aL : Addr} {fd : FuncData}
/-- gives v back, all tracked stays -/
abbrev Gives (v : V) (H : Hp) (Q : VK) : Prop := ∀ H', Ex H H' → Q v H'
/-- gives a new tuple of xs back -/
abbrev GivesT (xs : List V) (H : Hp) (Q : VK) : Prop := ∀ p H', H p = none → Ex H H' → H' p = some (.tup xs) → Q (.ref p) H'
/-- the module's LENGTHS -/
structure Lens (K : PySem.W.Frag) (mg : Str → Option Value) (aL : Addr) : Prop where
  mL : mg "LENGTHS" = some (.ref aL)
  lk : ∃ (o : Obj) (its : Array Value) (n : Nat), K.lookup aL = some o ∧ o.cls = .type "tuple" ∧ o.dict = none ∧ o.data = .seq its n ∧
    its.size ≤ sizeLine ∧ Vals [.int 3, .int 9, .int 27] its.toList
theorem Lens.sL (L : Lens K mg aL) (H : Hp) : SqT K H aL [.int 3, .int 9, .int 27] := by
  obtain ⟨o, its, n, h1, h2, h3, h4, h5, h6⟩ := L.lk
  exact Or.inr ⟨o, its, n, h1, h2, h4, h5, h6⟩
theorem Lens.ty (L : Lens K mg aL) (H : Hp) : tyV K "tuple" (.ref aL) H := by
  obtain ⟨o, its, n, h1, h2, h3, h4, h5, h6⟩ := L.lk
  exact Or.inr (Or.inl ⟨rfl, o, h1, h2, h3⟩)

abbrev sis_integer : Stmt := top 7
abbrev Nis_integer : List Str := ["x"]
theorem scis_integer : FnScope Nis_integer ["x"] (defScope sis_integer) := ⟨rfl, rfl, rfl, by decide +kernel, rfl, by decide +kernel, by decide +kernel⟩
def spIsInt : Sp := fun vs H Q _ => ∃ i : Int, vs = [.int i] ∧ Gives (.bl true) H Q
theorem ok_is_integer (F : Fun K "is_integer" "is_integer" sis_integer f fd) (B : Blt mg) : FnG P w K mg base 1 f fd ["x"] spIsInt := by
  refine fnG F scis_integer (fun vs H Q E h => ?_) (fun cdv A fr s H vs Q E hr gd h => ?_)
  · obtain ⟨i, rfl, _⟩ := h
    rfl
  · obtain ⟨i, rfl, k⟩ := h
    refine ⟨_, (pss_one (ps_ret (pe_and (pe_callB call_isi (by rfl) B.m_isinstance (by decide +kernel) (pa_cons (pv 0) (pa_cons (pe_bltn (v := .ty "int") rfl B.m_int (by decide +kernel) rfl) pa_nil))) (pe_one (pe_not (pe_callB call_isi (by rfl) B.m_isinstance (by decide +kernel) (pa_cons (pv 0) (pa_cons (pe_bltn (v := .ty "bool") rfl B.m_bool (by decide +kernel) rfl) pa_nil)))))))), ?_⟩
    refine ⟨_, rfl, .int i, .ty "int", _, _, true, rfl, .ty _, .base (.int i), kit_ty (by decide +kernel), true, rfl, iteT ?_⟩
    refine ⟨_, rfl, .int i, .ty "bool", _, _, false, rfl, .ty _, .base (.int i), kit_ty (by decide +kernel), false, rfl, ?_⟩
    exact k H (Ex.refl H)
abbrev sis_table : Stmt := top 9
abbrev Nis_table : List Str := ["x", "sign"]
theorem scis_table : FnScope Nis_table ["x"] (defScope sis_table) := ⟨rfl, rfl, rfl, by decide +kernel, rfl, by decide +kernel, by decide +kernel⟩
def spIsTable : Sp := fun vs H Q _ => ∃ (ds : List Nat) (n : Nat), IsTab ds n ∧ vs = [.str (tab ds)] ∧ Gives (.bl true) H Q
theorem lens_in {n : Nat} (h : n = 3 ∨ n = 9 ∨ n = 27) : inV (.int (n : Int)) [.int 3, .int 9, .int 27] = true := by
  rcases h with rfl | rfl | rfl <;> decide
theorem ok_is_table (F : Fun K "is_table" "is_table" sis_table f fd) (B : Blt mg) (LL : Lens K mg aL) : FnG P w K mg base 1 f fd ["x"] spIsTable := by
  refine fnG F scis_table (fun vs H Q E h => ?_) (fun cdv A fr s H vs Q E hr gd h => ?_)
  · obtain ⟨ds, n, _, rfl, _⟩ := h
    rfl
  · obtain ⟨ds, n, T, rfl, k⟩ := h
    refine ⟨_, (pss_cons (ps_if (PW.pt (pw_or (pt_not (pt_val (pe_callB call_isi (by rfl) B.m_isinstance (by decide +kernel) (pa_cons (pv 0) (pa_cons (pe_bltn (v := .ty "str") rfl B.m_str (by decide +kernel) rfl) pa_nil))))) (pw_or1 (pt_cmpR op_notIn_seq (pe_callB call_len (by rfl) B.m_len (by decide +kernel) (pa_cons (pv 0) pa_nil)) (pe_glob (v := .ref aL) rfl LL.mL rfl) (by rfl))))) (pss_one (ps_ret pe_bl)) pss_nil)
  (pss_one (ps_ret (pe_callB (cr_all rfl) (by rfl) B.m_all (by decide +kernel) (pa_cons (pe_lc (own := [("sign", 1)]) (g := gName 1) rfl scis_table.nd (pi_str (pv 0)) (blkOk_by (own := [("sign", 1)]) (N := Nis_table) (sc := defScope sis_table) (by decide +kernel)) (fun _ _ _ _ _ => (pg_name (i := 1) scis_table.nd rfl (Or.inl rfl))) (fun _ _ _ _ _ => pts_nil) (fun _ _ _ _ _ => (pe_cmpR op_in_sign (pv 1) pe_str (by rfl)))) pa_nil))))), ?_⟩
    refine ⟨_, rfl, .str (tab ds), .ty "str", _, _, true, rfl, .ty _, .base (.str _), kit_ty (by decide +kernel), true, rfl, iteF ?_⟩
    refine ⟨_, rfl, .str (tab ds), (tab ds).length, rfl, ⟨T.size, rfl⟩, aL, _, rfl, Or.inr (LL.sL H), rfl, rfl, false, ?_, iteF ?_⟩
    · have e : ds.length = 3 ∨ ds.length = 9 ∨ ds.length = 27 := by
        rcases T.cases with ⟨_, e⟩ | ⟨_, e⟩ | ⟨_, e⟩ <;> omega
      show V.bl (!inV (.int ((tab ds).length : Nat)) [.int 3, .int 9, .int 27]) = _
      rw [tab_len, lens_in e]
      rfl
    refine ⟨_, rfl, tab ds, rfl, fun D hD => lc_str (x := tab ds) (fun i H2 => Ex H H2 ∧ H2 D = some (.lst (List.replicate i (.bl true)))) ⟨Ex.new hD, upd_same⟩ ?_ ?_⟩
    · rintro i c H2 hi ⟨e2, h2⟩
      refine ⟨rfl, yes_go ?_⟩
      have il : i < ds.length := by
        have := (Array.getElem?_eq_some_iff.mp hi).1
        rw [tab_size] at this
        exact this
      refine ⟨_, rfl, c, _, rfl, rfl, List.replicate i (.bl true), h2, ?_, Ex.mut e2 hD, ?_⟩
      · rw [List.length_replicate]; exact Nat.lt_of_lt_of_le (by have := T.small; omega : i < 28) (by decide)
      · obtain ⟨d, _, d3, rfl⟩ := tab_sign T hi
        have e : decide (48 + d ∈ (Str.ofString "012").cps.toList) = true := by
          have : d = 0 ∨ d = 1 ∨ d = 2 := by omega
          rcases this with rfl | rfl | rfl <;> decide
        rw [upd_same, e, ← List.replicate_succ']
    · rintro H2 ⟨e2, h2⟩
      refine ⟨D, List.replicate (tab ds).cps.size true, rfl, SqL.of (by rw [h2, List.map_replicate]), ?_⟩
      have : (List.replicate (tab ds).cps.size true).all id = true := by simp
      rw [this]
      exact k H2 e2

abbrev smust_be_table : Stmt := top 11
abbrev Nmust_be_table : List Str := ["x"]
theorem scmust_be_table : FnScope Nmust_be_table ["x"] (defScope smust_be_table) := ⟨rfl, rfl, rfl, by decide +kernel, rfl, by decide +kernel, by decide +kernel⟩
def spMust : Sp := fun vs H Q _ => ∃ (ds : List Nat) (n : Nat), IsTab ds n ∧ vs = [.str (tab ds)] ∧ Gives .non H Q
theorem ok_must_be_table (F : Fun K "must_be_table" "must_be_table" smust_be_table f fd) (D_is_table : DefG P w K mg base "is_table" ["x"] 1 spIsTable) : FnG P w K mg base 2 f fd ["x"] spMust := by
  refine fnG F scmust_be_table (fun vs H Q E h => ?_) (fun cdv A fr s H vs Q E hr gd h => ?_)
  · obtain ⟨ds, n, _, rfl, _⟩ := h
    rfl
  · obtain ⟨ds, n, T, rfl, k⟩ := h
    refine ⟨_, (pss_one (ps_if (pt_not (pt_val (pe_def D_is_table (hr.mono (by decide)) gd rfl (pa_cons (pv 0) pa_nil)))) (pss_one ps_never) pss_nil)), ?_⟩
    exact ⟨_, rfl, ds, n, T, rfl, fun H1 e1 => ⟨true, rfl, iteF (k H1 e1)⟩⟩
abbrev sindex_at : Stmt := top 14
abbrev Nindex_at : List Str := ["arguments", "at", "x"]
theorem scindex_at : FnScope Nindex_at ["arguments"] (defScope sindex_at) := ⟨rfl, rfl, rfl, by decide +kernel, rfl, by decide +kernel, by decide +kernel⟩
abbrev IsNums (H : Hp) (p : Addr) (as : List Nat) : Prop := H p = some (.tup (iv as)) ∨ H p = some (.lst (iv as))
def spIndexAt : Sp := fun vs H Q _ => ∃ (p : Addr) (as : List Nat), vs = [.ref p] ∧ IsNums H p as ∧ Gives (.int (num as : Nat)) H Q
theorem num_take {as : List Nat} {i a : Nat} (h : as[i]? = some a) : num (as.take (i + 1)) = 3 * num (as.take i) + a := by
  rw [List.take_succ, h]
  exact num_snoc _ _
theorem ok_index_at (F : Fun K "index_at" "index_at" sindex_at f fd) : FnG P w K mg base 1 f fd ["arguments"] spIndexAt := by
  refine fnG F scindex_at (fun vs H Q E h => ?_) (fun cdv A fr s H vs Q E hr gd h => ?_)
  · obtain ⟨p, as, rfl, _⟩ := h
    rfl
  · obtain ⟨p, as, rfl, hp | hp, k⟩ := h
    refine ⟨_, (pss_cons (ps_set (i := 1) scindex_at.nd rfl (Or.inl rfl) pe_int)
  (pss_cons (ps_for PassesOwn.never rfl (pi_tup (pv 0)) (pg_name (i := 2) scindex_at.nd rfl (Or.inl rfl)) (pss_one (ps_set (i := 1) scindex_at.nd rfl (Or.inl rfl) (pe_op op_add (pe_op op_mul pe_int (pv 1)) (pv 2)))))
  (pss_one (ps_ret (pv 1))))), ?_⟩
    refine ⟨_, rfl, p, rfl, ⟨_, SqT.of hp⟩, for_tup (K := K) (a := p) (xs := iv as)
      (fun i σ H2 => H2 = H ∧ ∃ v : Option V, σ = [some (.ref p), some (.int (num (as.take i) : Nat)), v]) ⟨rfl, none, rfl⟩ (fun i σ H2 _ e => by rw [e.1]; exact SqT.of hp) ?_ ?_⟩
    · rintro i x σ H2 hi ⟨rfl, v, rfl⟩
      obtain ⟨a, ha, rfl⟩ := iv_at hi
      refine ⟨_, rfl, _, _, rfl, rfl, Or.inl ⟨by decide, by decide⟩, _, rfl, _, _, rfl, rfl, rfl, some (.int (a : Int)), ?_⟩
      rw [num_take ha]
      show [some (V.ref p), some (V.int (3 * ((num (as.take i) : Nat) : Int) + (a : Int))), some (V.int (a : Int))] = _
      have e : (3 * ((num (as.take i) : Nat) : Int) + (a : Int)) = ((3 * num (as.take i) + a : Nat) : Int) := by omega
      rw [e]
    · rintro σ H2 ⟨rfl, v, rfl⟩
      rw [iv_len, List.take_length]
      exact ⟨_, rfl, k H2 (Ex.refl H2)⟩
    refine ⟨_, (pss_cons (ps_set (i := 1) scindex_at.nd rfl (Or.inl rfl) pe_int)
  (pss_cons (ps_for PassesOwn.never rfl (pi_list (pv 0)) (pg_name (i := 2) scindex_at.nd rfl (Or.inl rfl)) (pss_one (ps_set (i := 1) scindex_at.nd rfl (Or.inl rfl) (pe_op op_add (pe_op op_mul pe_int (pv 1)) (pv 2)))))
  (pss_one (ps_ret (pv 1))))), ?_⟩
    refine ⟨_, rfl, p, rfl, ⟨_, SqL.of hp⟩, for_list (K := K) (a := p) (xs := iv as)
      (fun i σ H2 => H2 = H ∧ ∃ v : Option V, σ = [some (.ref p), some (.int (num (as.take i) : Nat)), v]) ⟨rfl, none, rfl⟩ (fun i σ H2 _ e => by rw [e.1]; exact SqL.of hp) ?_ ?_⟩
    · rintro i x σ H2 hi ⟨rfl, v, rfl⟩
      obtain ⟨a, ha, rfl⟩ := iv_at hi
      refine ⟨_, rfl, _, _, rfl, rfl, Or.inl ⟨by decide, by decide⟩, _, rfl, _, _, rfl, rfl, rfl, some (.int (a : Int)), ?_⟩
      rw [num_take ha]
      show [some (V.ref p), some (V.int (3 * ((num (as.take i) : Nat) : Int) + (a : Int))), some (V.int (a : Int))] = _
      have e : (3 * ((num (as.take i) : Nat) : Int) + (a : Int)) = ((3 * num (as.take i) + a : Nat) : Int) := by omega
      rw [e]
    · rintro σ H2 ⟨rfl, v, rfl⟩
      rw [iv_len, List.take_length]
      exact ⟨_, rfl, k H2 (Ex.refl H2)⟩
theorem ev_lenLz {σ : L2.St} {H : Hp} {te : TE} {xs : List V} (h : EvL te σ H xs) : Ev (tCB (fun xs H Q => ∃ x n, xs = [x] ∧ LenV K x H n ∧ Q (.int (n : Nat)) H) (tCons te tNil)) σ H (.int (xs.length : Nat)) :=
  fun H1 e Q q => h H1 e _ fun p H2 _ e2 hx => ⟨.ref p, xs.length, rfl, Or.inl ⟨xs, SqL.of hx, rfl⟩, q H2 e2⟩
/-- over LENGTHS -/
theorem el_lcLens {σ : L2.St} {H : Hp} {te tl : TE} {tt : TT} {j : Nat} {vs : List Nat} (LL : Lens K mg aL) (f : Nat → Bool) (v : Nat → V) (h : Ev tl σ H (.ref aL))
    (hw : ∀ y, wipe ((wipe σ vs).set j (some y)) vs = wipe σ vs)
    (ht : ∀ (i : Nat) (x : V) H1, Ex H H1 → [V.int 3, V.int 9, V.int 27][i]? = some x → EvT tt ((wipe σ vs).set j (some x)) H1 (f i))
    (he : ∀ (i : Nat) (x : V) H1, Ex H H1 → [V.int 3, V.int 9, V.int 27][i]? = some x → f i = true → Ev te ((wipe σ vs).set j (some x)) H1 (v i)) :
    EvL (tLc (iTup K tl) (gName j) tt te vs) σ H (given 3 f v) := fun H0 e Q q => h H0 e _ fun H1 e1 => ⟨aL, rfl, ⟨[.int 3, .int 9, .int 27], LL.sL H1⟩, fun Dl hD =>
  lc_tup (xs := [V.int 3, V.int 9, V.int 27]) (Cw H1 f v Dl) ⟨hD, Ex.new hD, upd_same⟩ (fun i H' _ p => LL.sL H') (fun i x H' hi p =>
    ⟨hw _, cw_turn p (by have := (List.getElem?_eq_some_iff.mp hi).1; have l3 : [V.int 3, V.int 9, V.int 27].length = 3 := rfl; omega) (ht i x H1 (e.trans e1) hi) (fun hf => he i x H1 (e.trans e1) hi hf)⟩)
    (fun H' p => q Dl H' (fresh_back e1 p.1) (e1.trans p.2.1) p.2.2)⟩
abbrev splaces : Stmt := top 17
abbrev Nplaces : List Str := ["table", "length"]
theorem scplaces : FnScope Nplaces ["table"] (defScope splaces) := ⟨rfl, rfl, rfl, by decide +kernel, rfl, by decide +kernel, by decide +kernel⟩
def spPlaces : Sp := fun vs H Q _ => ∃ (ds : List Nat) (n : Nat), IsTab ds n ∧ vs = [.str (tab ds)] ∧ Gives (.int (n : Int)) H Q
theorem ok_places (F : Fun K "places" "places" splaces f fd) (B : Blt mg) (LL : Lens K mg aL) (D_must_be_table : DefG P w K mg base "must_be_table" ["x"] 2 spMust) : FnG P w K mg base 3 f fd ["table"] spPlaces := by
  refine fnG F scplaces (fun vs H Q E h => ?_) (fun cdv A fr s H vs Q E hr gd h => ?_)
  · obtain ⟨ds, n, _, rfl, _⟩ := h
    rfl
  · obtain ⟨ds, n, T, rfl, k⟩ := h
    refine ⟨_, (pss_cons (ps_expr (pe_def D_must_be_table (hr.mono (by decide)) gd rfl (pa_cons (pv 0) pa_nil)))
  (pss_one (ps_ret (pe_callB call_len (by rfl) B.m_len (by decide +kernel) (pa_cons (pe_lc (own := [("length", 1)]) (g := gName 1) rfl scplaces.nd (pi_tup (pe_glob (v := .ref aL) rfl LL.mL rfl)) (blkOk_by (own := [("length", 1)]) (N := Nplaces) (sc := defScope splaces) (by decide +kernel)) (fun _ _ _ _ _ => (pg_name (i := 1) scplaces.nd rfl (Or.inl rfl))) (fun _ _ _ _ _ => (pts_one (pt_cmpR op_le (pv 1) (pe_callB (show CallR _ _ (fun xs H Q => ∃ x n, xs = [x] ∧ LenV K x H n ∧ Q (.int (n : Nat)) H) from call_len) (by rfl) B.m_len (by decide +kernel) (pa_cons (pv 0) pa_nil)) (nomark _)))) (fun _ _ _ _ _ => (pv 1))) pa_nil))))), ?_⟩
    refine ⟨_, rfl, ds, n, T, rfl, fun H1 e1 => ?_⟩
    dsimp only
    have lens : EvL (tLc (iTup K (tC (.ref aL))) (gName 1) (tTest (tOp (rI0 fun i j => V.bl (decide (i ≤ j))) (tVar 1) (tCB (fun xs H Q => ∃ x n, xs = [x] ∧ LenV K x H n ∧ Q (V.int (n : Nat)) H) (tCons (tVar 0) tNil)))) (tVar 1) [1])
        [some (V.str (tab ds)), none] H1 (given 3 (fun i => decide ([(3 : Int), 9, 27].getD i 0 ≤ (((tab ds).length : Nat) : Int))) (fun i => .int ([(3 : Int), 9, 27].getD i 0))) := by
      refine el_lcLens LL _ _ ev_c (fun y => rfl) (fun i x H2 e2 hx => ?_) (fun i x H2 e2 hx _ => ?_)
      · have hi : i < 3 := (List.getElem?_eq_some_iff.mp hx).1
        have ex : x = .int ([(3 : Int), 9, 27].getD i 0) := by
          have : i = 0 ∨ i = 1 ∨ i = 2 := by omega
          rcases this with rfl | rfl | rfl <;> exact (Option.some.inj hx).symm
        rw [ex]
        exact et_test (ev_op (ev_var rfl) (ev_str_len (ev_var rfl) T.size) rv_I0)
      · have hi : i < 3 := (List.getElem?_eq_some_iff.mp hx).1
        have ex : x = .int ([(3 : Int), 9, 27].getD i 0) := by
          have : i = 0 ∨ i = 1 ∨ i = 2 := by omega
          rcases this with rfl | rfl | rfl <;> exact (Option.some.inj hx).symm
        rw [ex]
        exact ev_var rfl
    refine s_ret (v := .int ((given 3 (fun i => decide ([(3 : Int), 9, 27].getD i 0 ≤ (((tab ds).length : Nat) : Int))) (fun i => V.int ([(3 : Int), 9, 27].getD i 0))).length : Nat))
      (ev_lenLz lens) fun H2 e2 => ?_
    have cnt : (given 3 (fun i => decide ([(3 : Int), 9, 27].getD i 0 ≤ (((tab ds).length : Nat) : Int))) (fun i => V.int ([(3 : Int), 9, 27].getD i 0))).length = n := by
      rw [tab_len]
      rcases T.cases with ⟨rfl, l⟩ | ⟨rfl, l⟩ | ⟨rfl, l⟩ <;> rw [l] <;> decide
    rw [cnt]
    exact k H2 (e1.trans e2)
end
end Tv

namespace Tv
open PySem PySem.Spec PyProof.Rows L2 Evl
section
variable {P : Program} {w : World} {K : PySem.W.Frag} {mg : Str → Option Value} {base : Heap} {f aL : Addr} {fd : FuncData}
abbrev sall_ways : Stmt := top 15
abbrev Nall_ways : List Str := ["lots", "rows", "lot", "row", "x"]
theorem scall_ways : FnScope Nall_ways ["lots"] (defScope sall_ways) := ⟨rfl, rfl, rfl, by decide +kernel, rfl, by decide +kernel, by decide +kernel⟩
/-- gives a new list of new rows of anything back -/
abbrev GivesRowsV (L : List (List V)) (H : Hp) (Q : VK) : Prop := ∀ p H' xs, H p = none → Ex H H' → H' p = some (.lst xs) → RowsV H' xs L → Q (.ref p) H'
def FewWays (xss : List (List V)) : Prop := xss.length ≤ 20 ∧ ∀ i, i ≤ xss.length → (ways (xss.take i)).length ≤ 60000
def spWays : Sp := fun vs H Q _ => ∃ (p : Addr) (ls : List V) (xss : List (List V)), vs = [.ref p] ∧ H p = some (.lst ls) ∧ FewWays xss ∧
  (RowsV H ls xss ∨ ∃ zs : List Str, ls = zs.map V.str ∧ xss = zs.map signsOf) ∧ GivesRowsV (ways xss) H Q
theorem ok_all_ways (F : Fun K "all_ways" "all_ways" sall_ways f fd) : FnG P w K mg base 1 f fd ["lots"] spWays := by
  refine fnG F scall_ways (fun vs H Q E h => ?_) (fun cdv A fr s H vs Q E hr gd h => ?_)
  · obtain ⟨p, ls, xss, rfl, _⟩ := h
    rfl
  · obtain ⟨p, ls, xss, rfl, hp, ⟨short, few⟩, kind, k⟩ := h
    have many : ls.length = xss.length := by
      rcases kind with R | ⟨zs, rfl, rfl⟩
      · exact R.len
      · rw [List.length_map, List.length_map]
    have small : ∀ {i : Nat} {xs : List V}, xss[i]? = some xs → (ways (xss.take i)).length * xs.length ≤ 60000 := fun {i xs} h => by
      have := few (i + 1) (List.getElem?_eq_some_iff.mp h).1
      rw [ways_take h, growAll_len] at this
      exact this
    have row_short : ∀ {i j : Nat} {r : List V}, (ways (xss.take i))[j]? = some r → r.length ≤ 100 := fun {i j r} h => by
      have := ways_row (List.mem_of_getElem? h)
      rw [List.length_take] at this
      omega
    rcases kind with R | ⟨zs, rfl, rfl⟩
    · refine ⟨_, (pss_cons (ps_set (i := 1) scall_ways.nd rfl (Or.inl rfl) (pe_lst (pa_cons (pe_tup pa_nil) pa_nil)))
  (pss_cons (ps_for PassesOwn.never rfl (pi_list (pv 0)) (pg_name (i := 2) scall_ways.nd rfl (Or.inr rfl)) (pss_one (ps_setLc2 (i := 1) (own := [("row", 3), ("x", 4)]) (vs1 := [4]) rfl scall_ways.nd rfl rfl (sw_true rfl rfl rfl (by decide +kernel)) (pi_list (pv 1)) (blkOk_by (own := [("row", 3), ("x", 4)]) (N := Nall_ways) (sc := defScope sall_ways) (by decide +kernel)) (by decide) (fun _ _ _ _ _ => (pg_name (i := 3) scall_ways.nd rfl (Or.inl rfl))) (fun _ _ _ _ _ => pts_nil) (fun _ _ _ _ _ => (show PI _ _ _ (iTup K _) from (pi_tup (pv 2)))) (fun _ _ _ _ _ => (pg_name (i := 4) scall_ways.nd rfl (Or.inl rfl))) (fun _ _ _ _ _ => pts_nil) (fun _ _ _ _ _ => (pe_op (show OpR _ _ (rCatA K) from op_catA) (pv 3) (pe_tup (pa_cons (pv 4) pa_nil)))))))
  (pss_one (ps_ret (pv 1))))), ?_⟩
      refine ⟨by decide, fun t ht => ⟨by show 1 ≤ sizeLine; decide, fun l hl => ?_⟩⟩
      have tl : t ≠ l := ne_of_none upd_same hl
      have e0 := (Ex.new (o := .tup []) ht).trans (Ex.new (o := .lst [.ref t]) hl)
      refine ⟨_, rfl, p, rfl, ⟨ls, SqL.of (e0 _ _ hp)⟩, for_list (K := K) (a := p) (xs := ls)
        (fun i σ H2 => ∃ (l2 : Addr) (xs : List V) (v : Option V), σ = [some (.ref p), some (.ref l2), v, none, none] ∧ H l2 = none ∧ Ex H H2 ∧ H2 l2 = some (.lst xs) ∧ RowsV H2 xs (ways (xss.take i)))
        ?_ (fun i σ H2 _ ⟨_, _, _, _, _, e, _⟩ => SqL.of (e _ _ hp)) ?_ ?_⟩
      · refine ⟨l, [.ref t], none, rfl, fresh_back (Ex.new ht) hl, e0, upd_same, .cons ⟨t, rfl, by rw [upd_ne tl, upd_same]⟩ .nil⟩
      · rintro i x σ H2 hi ⟨l2, ys, v, rfl, hl0, e2, hl2, R2⟩
        obtain ⟨xs, at_i, a, rfl, ha⟩ := R.get hi
        have ha2 := e2 _ _ ha
        refine ⟨_, rfl, l2, rfl, ⟨ys, SqL.of hl2⟩, fun D hD => lc2_out (K := K) (a := l2) (xs := ys)
          (fun j H3 => Ex H2 H3 ∧ ∃ zs, H3 D = some (.lst zs) ∧ RowsV H3 zs (growAll ((ways (xss.take i)).take j) xs))
          ⟨Ex.new hD, [], upd_same, .nil⟩ (fun j H3 _ e => SqL.of (e.1 _ _ hl2)) ?_ ?_⟩
        · rintro j x H3 hx ⟨e3, zs, hD3, R3⟩
          obtain ⟨r, at_r, _⟩ := R2.get hx
          refine ⟨rfl, yes_go ?_⟩
          refine ⟨_, rfl, a, rfl, ⟨xs, SqT.of (e3 _ _ ha2)⟩, lc2_tup (K := K) (a := a) (xs := xs) (Grown D H2 (ways (xss.take i)) xs j r) ⟨e3, zs, hD3, ?_⟩ (fun m H4 _ e => SqT.of (e.1 _ _ ha2)) ?_ ?_⟩
          · have : grow r (xs.take 0) = [] := rfl
            rw [this, List.append_nil]
            exact R3
          · intro m y H4 hy pg
            exact ⟨rfl, yes_go (grown_turn hD R2 hx at_r hy (row_short at_r) (small at_i) pg (ev_var rfl) (ev_var rfl))⟩
          · intro H4 pg
            exact grown_end at_r pg
        · rintro H3 ⟨e3, zs, hD3, R3⟩
          rw [R2.len, List.take_length] at R3
          refine ⟨D, zs, _, rfl, fresh_back e2 hD, e2.trans e3, hD3, ?_⟩
          rw [ways_take at_i]
          exact R3
      · rintro σ H2 ⟨l2, xs, v, rfl, hl0, e2, hl2, R2⟩
        rw [many, List.take_length] at R2
        exact ⟨_, rfl, k l2 H2 xs hl0 e2 hl2 R2⟩
    · refine ⟨_, (pss_cons (ps_set (i := 1) scall_ways.nd rfl (Or.inl rfl) (pe_lst (pa_cons (pe_tup pa_nil) pa_nil)))
  (pss_cons (ps_for PassesOwn.never rfl (pi_list (pv 0)) (pg_name (i := 2) scall_ways.nd rfl (Or.inr rfl)) (pss_one (ps_setLc2 (i := 1) (own := [("row", 3), ("x", 4)]) (vs1 := [4]) rfl scall_ways.nd rfl rfl (sw_true rfl rfl rfl (by decide +kernel)) (pi_list (pv 1)) (blkOk_by (own := [("row", 3), ("x", 4)]) (N := Nall_ways) (sc := defScope sall_ways) (by decide +kernel)) (by decide) (fun _ _ _ _ _ => (pg_name (i := 3) scall_ways.nd rfl (Or.inl rfl))) (fun _ _ _ _ _ => pts_nil) (fun _ _ _ _ _ => (pi_str (pv 2))) (fun _ _ _ _ _ => (pg_name (i := 4) scall_ways.nd rfl (Or.inl rfl))) (fun _ _ _ _ _ => pts_nil) (fun _ _ _ _ _ => (pe_op (show OpR _ _ (rCatA K) from op_catA) (pv 3) (pe_tup (pa_cons (pv 4) pa_nil)))))))
  (pss_one (ps_ret (pv 1))))), ?_⟩
      refine ⟨by decide, fun t ht => ⟨by show 1 ≤ sizeLine; decide, fun l hl => ?_⟩⟩
      have tl : t ≠ l := ne_of_none upd_same hl
      have e0 := (Ex.new (o := .tup []) ht).trans (Ex.new (o := .lst [.ref t]) hl)
      refine ⟨_, rfl, p, rfl, ⟨_, SqL.of (e0 _ _ hp)⟩, for_list (K := K) (a := p) (xs := zs.map V.str)
        (fun i σ H2 => ∃ (l2 : Addr) (xs : List V) (v : Option V), σ = [some (.ref p), some (.ref l2), v, none, none] ∧ H l2 = none ∧ Ex H H2 ∧ H2 l2 = some (.lst xs) ∧ RowsV H2 xs (ways ((zs.map signsOf).take i)))
        ?_ (fun i σ H2 _ ⟨_, _, _, _, _, e, _⟩ => SqL.of (e _ _ hp)) ?_ ?_⟩
      · refine ⟨l, [.ref t], none, rfl, fresh_back (Ex.new ht) hl, e0, upd_same, .cons ⟨t, rfl, by rw [upd_ne tl, upd_same]⟩ .nil⟩
      · rintro i x σ H2 hi ⟨l2, ys, v, rfl, hl0, e2, hl2, R2⟩
        rw [List.getElem?_map] at hi
        obtain ⟨z, hz, rfl⟩ := Option.map_eq_some_iff.mp hi
        have at_i : (zs.map signsOf)[i]? = some (signsOf z) := by rw [List.getElem?_map, hz]; rfl
        refine ⟨_, rfl, l2, rfl, ⟨ys, SqL.of hl2⟩, fun D hD => lc2_out (K := K) (a := l2) (xs := ys)
          (fun j H3 => Ex H2 H3 ∧ ∃ zs_1, H3 D = some (.lst zs_1) ∧ RowsV H3 zs_1 (growAll ((ways ((zs.map signsOf).take i)).take j) (signsOf z)))
          ⟨Ex.new hD, [], upd_same, .nil⟩ (fun j H3 _ e => SqL.of (e.1 _ _ hl2)) ?_ ?_⟩
        · rintro j x H3 hx ⟨e3, us, hD3, R3⟩
          obtain ⟨r, at_r, _⟩ := R2.get hx
          refine ⟨rfl, yes_go ?_⟩
          refine ⟨_, rfl, z, rfl, lc2_str (x := z) (Grown D H2 (ways ((zs.map signsOf).take i)) (signsOf z) j r) ⟨e3, us, hD3, ?_⟩ ?_ ?_⟩
          · have : grow r ((signsOf z).take 0) = [] := rfl
            rw [this, List.append_nil]
            exact R3
          · intro m c H4 hy pg
            exact ⟨rfl, yes_go (grown_turn hD R2 hx at_r (signsOf_at hy) (row_short at_r) (small at_i) pg (ev_var rfl) (ev_var rfl))⟩
          · intro H4 pg
            rw [← signsOf_len] at pg
            exact grown_end at_r pg
        · rintro H3 ⟨e3, us, hD3, R3⟩
          rw [R2.len, List.take_length] at R3
          refine ⟨D, us, _, rfl, fresh_back e2 hD, e2.trans e3, hD3, ?_⟩
          rw [ways_take at_i]
          exact R3
      · rintro σ H2 ⟨l2, xs, v, rfl, hl0, e2, hl2, R2⟩
        rw [many, List.take_length] at R2
        exact ⟨_, rfl, k l2 H2 xs hl0 e2 hl2 R2⟩
abbrev sall_arguments : Stmt := top 16
abbrev Nall_arguments : List Str := ["count"]
theorem scall_arguments : FnScope Nall_arguments ["count"] (defScope sall_arguments) := ⟨rfl, rfl, rfl, by decide +kernel, rfl, by decide +kernel, by decide +kernel⟩
/-- gives a new list of new rows back -/
abbrev GivesRows (L : List (List Nat)) (H : Hp) (Q : VK) : Prop := ∀ p H' xs, H p = none → Ex H H' → H' p = some (.lst xs) → Rows H' xs L → Q (.ref p) H'
def spAllArgs : Sp := fun vs H Q _ => ∃ n : Nat, n ≤ 4 ∧ vs = [.int (n : Int)] ∧ GivesRows (tups n) H Q
theorem rowsV_rep {H : Hp} {a : Addr} {xs : List V} (h : H a = some (.tup xs)) : ∀ n : Nat, RowsV H (List.replicate n (.ref a)) (List.replicate n xs)
  | 0 => .nil
  | n + 1 => .cons ⟨a, rfl, h⟩ (rowsV_rep h n)
theorem few_tups : ∀ n, n ≤ 4 → FewWays (List.replicate n (iv [0, 1, 2])) := by
  intro n hn
  refine ⟨by rw [List.length_replicate]; omega, fun i hi => ?_⟩
  rw [List.length_replicate] at hi
  rw [List.take_replicate, Nat.min_eq_left hi, ways_iv, List.length_map]
  have : i ≤ 4 := by omega
  have h : ∀ i, i ≤ 4 → (tups i).length ≤ 81 := by decide
  exact Nat.le_trans (h i this) (by decide)
theorem ok_all_arguments (F : Fun K "all_arguments" "all_arguments" sall_arguments f fd) (D_all_ways : DefG P w K mg base "all_ways" ["lots"] 1 spWays) : FnG P w K mg base 2 f fd ["count"] spAllArgs := by
  refine fnG F scall_arguments (fun vs H Q E h => ?_) (fun cdv A fr s H vs Q E hr gd h => ?_)
  · obtain ⟨n, _, rfl, _⟩ := h
    rfl
  · obtain ⟨n, n4, rfl, k⟩ := h
    refine ⟨_, (pss_one (ps_ret (pe_def D_all_ways (hr.mono (by decide)) gd rfl (pa_cons (pe_op op_rep (pe_lst (pa_cons (pe_tup (pa_cons pe_int (pa_cons pe_int (pa_cons pe_int pa_nil)))) pa_nil)) (pv 0)) pa_nil)))), ?_⟩
    refine ⟨by show 3 ≤ sizeLine; decide, fun t ht => ⟨by show 1 ≤ sizeLine; decide, fun l hl => ?_⟩⟩
    have tl : t ≠ l := ne_of_none upd_same hl
    refine ⟨_, rfl, l, (n : Int), [.ref t], rfl, rfl, upd_same, by omega, by omega, by rw [Int.toNat_natCast]; exact Nat.le_trans (by show 1 * n ≤ 4; omega) (by decide), fun p hp => ?_⟩
    have e1 := (Ex.new (o := .tup (iv [0, 1, 2])) ht).trans (Ex.new (o := .lst [.ref t]) hl)
    have e2 := e1.trans (Ex.new (o := .lst (List.replicate (n : Int).toNat [V.ref t]).flatten) hp)
    have ht2 : (upd (upd (upd H t (.tup (iv [0, 1, 2]))) l (.lst [.ref t])) p (.lst (List.replicate (n : Int).toNat [V.ref t]).flatten)) t = some (.tup (iv [0, 1, 2])) := by
      rw [upd_ne (ne_of_none (by rw [upd_ne tl, upd_same]) hp), upd_ne tl, upd_same]
    refine ⟨p, List.replicate n (.ref t), List.replicate n (iv [0, 1, 2]), rfl, ?_, few_tups n n4, Or.inl (rowsV_rep ht2 n), fun q H' xs hq e hx R => ?_⟩
    · have e0 : (List.replicate (n : Int).toNat [V.ref t]).flatten = List.replicate n (V.ref t) := by rw [Int.toNat_natCast, flat_one]
      rw [← e0]
      exact upd_same
    · rw [ways_iv] at R
      exact k q H' xs (fresh_back e2 hq) (e2.trans e) hx (Rows.ofV R)
end
end Tv

namespace Tv
open PySem PySem.Spec PyProof.Rows L2 Evl
section
variable {P : Program} {w : World} {K : PySem.W.Frag} {mg : Str → Option Value} {base : Heap} {f aL : Addr} {fd : FuncData}
abbrev slaw_tuples : Stmt := top 25
abbrev Nlaw_tuples : List Str := ["size", "found", "k", "later", "some"]
theorem sclaw_tuples : FnScope Nlaw_tuples ["size"] (defScope slaw_tuples) := ⟨rfl, rfl, rfl, by decide +kernel, rfl, by decide +kernel, by decide +kernel⟩
theorem ok_tuples (F : Fun K "_law_tuples" "_law_tuples" slaw_tuples f fd) (B : Blt mg) : FnG P w K mg base 1 f fd ["size"] spAllArgs := by
  refine fnG F sclaw_tuples (fun vs H Q E h => ?_) (fun cdv A fr s H vs Q E hr gd h => ?_)
  · obtain ⟨n, _, rfl, _⟩ := h
    rfl
  · obtain ⟨n, n3, rfl, k⟩ := h
    refine ⟨_, (pss_cons (ps_set (i := 1) sclaw_tuples.nd rfl (Or.inl rfl) (pe_lst (pa_cons (pe_tup pa_nil) pa_nil)))
  (pss_cons (ps_for PassesOwn.never rfl (pi_range1 rfl B.m_range (pa_cons (pv 0) pa_nil)) (pg_name (i := 2) sclaw_tuples.nd rfl (Or.inl rfl)) (pss_cons (ps_set (i := 3) sclaw_tuples.nd rfl (Or.inl rfl) (pe_lst pa_nil))
  (pss_cons (ps_for PassesOwn.never rfl (pi_list (pv 1)) (pg_name (i := 4) sclaw_tuples.nd rfl (Or.inl rfl)) (pss_one (ps_set (i := 3) sclaw_tuples.nd rfl (Or.inl rfl) (pe_op op_cat (pv 3) (pe_lst (pa_cons (pe_op op_catA (pv 4) (pe_tup (pa_cons pe_int pa_nil))) (pa_cons (pe_op op_catA (pv 4) (pe_tup (pa_cons pe_int pa_nil))) (pa_cons (pe_op op_catA (pv 4) (pe_tup (pa_cons pe_int pa_nil))) pa_nil))))))))
  (pss_one (ps_set (i := 1) sclaw_tuples.nd rfl (Or.inl rfl) (pv 3))))))
  (pss_one (ps_ret (pv 1))))), ?_⟩
    refine ⟨by decide, fun t ht => ⟨by show 1 ≤ sizeLine; decide, fun l hl => ?_⟩⟩
    have tl : t ≠ l := ne_of_none upd_same hl
    refine ⟨_, rfl, (n : Int), rfl, by omega, by omega, for_range (lo := 0) (n := n)
      (fun i σ H2 => ∃ (l2 : Addr) (xs : List V) (v v1 v2 : Option V), σ = [some (.int (n : Int)), some (.ref l2), v, v1, v2] ∧ H l2 = none ∧ Ex H H2 ∧ H2 l2 = some (.lst xs) ∧ Rows H2 xs (tups i)) ?_ ?_ ?_⟩
    · refine ⟨l, [.ref t], none, none, none, rfl, ?_, ?_, upd_same, .cons ⟨t, rfl, by rw [upd_ne tl, upd_same]; rfl⟩ .nil⟩
      · exact fresh_back (Ex.new ht) hl
      · exact (Ex.new ht).trans (Ex.new hl)
    · rintro i σ H2 hi ⟨l2, xs, v, v1, v2, rfl, hl0, e2, hl2, R⟩
      have i3 : i ≤ 3 := by omega
      refine ⟨by decide, fun l3 hl3 => ⟨_, rfl, l2, rfl, ⟨xs, SqL.of (by rw [upd_ne (ne_of_none hl2 hl3)]; exact hl2)⟩, for_list (K := K) (a := l2) (xs := xs)
        (fun j σ H3 => ∃ (l4 : Addr) (ys : List V) (u : Option V), σ = [some (.int (n : Int)), some (.ref l2), some (.int (0 + (i : Int))), some (.ref l4), u] ∧ H2 l4 = none ∧ Ex H2 H3 ∧
          H3 l4 = some (.lst ys) ∧ Rows H3 ys (((tups i).take j).flatMap ext)) ?_ (fun j σ H3 _ ⟨_, _, _, _, _, e3, _⟩ => SqL.of (e3 _ _ hl2)) ?_ ?_⟩⟩
      · exact ⟨l3, [], v2, rfl, hl3, Ex.new hl3, upd_same, .nil⟩
      · rintro j x σ H3 hx ⟨l4, ys, u, rfl, hl4, e3, h4, R3⟩
        obtain ⟨r, hr', rx⟩ := R.get hx
        have rl : r.length ≤ 100 := tups_short i3 hr'
        have step : ∀ {H4 : Hp} (m : Nat) {Q : VK}, Ex H2 H4 → (∀ y H', Ex H4 H' → IsRow H' y (r ++ [m]) → Q y H') → ∀ q, H4 q = none → rCatA K x (.ref q) (upd H4 q (.tup [V.int (m : Int)])) Q := fun {H4} m {Q} e4 hQ q hq => by
          have ez := Ex.new (o := .tup [V.int (m : Int)]) hq
          have rx5 : IsRow (upd H4 q (.tup [V.int (m : Int)])) x r := by
            obtain ⟨a', e', h'⟩ := rx
            exact ⟨a', e', ez _ _ (e4 _ _ h')⟩
          exact catA_row rx5 rl upd_same fun y H5 e5 ry => hQ y H5 (ez.trans e5) ry
        refine ⟨_, rfl, _, rfl, (by show 1 ≤ sizeLine; decide), fun q0 hq0 => step 0 e3 (fun y0 H4 e4 r0 => ?_) q0 hq0⟩
        refine ⟨_, rfl, (by show 1 ≤ sizeLine; decide), fun q1 hq1 => step 1 (e3.trans e4) (fun y1 H5 e5 r1 => ?_) q1 hq1⟩
        refine ⟨_, rfl, (by show 1 ≤ sizeLine; decide), fun q2 hq2 => step 2 ((e3.trans e4).trans e5) (fun y2 H6 e6 r2 => ?_) q2 hq2⟩
        refine ⟨by show 3 ≤ sizeLine; decide, fun q3 hq3 => ?_⟩
        have e36 := (e4.trans e5).trans e6
        have n3' : l4 ≠ q3 := ne_of_none (e36 _ _ h4) hq3
        refine ⟨l4, q3, ys, [y0, y1, y2], rfl, rfl, by rw [upd_ne n3']; exact e36 _ _ h4, upd_same, ?_, fun p hp => ?_⟩
        · rw [R3.len]
          have s1 := (flat_small (n := i) (i := j) i3).2
          exact Nat.le_trans (by show _ + 3 ≤ 84; omega) (by decide : 84 ≤ sizeLine)
        · have e7 := (Ex.new (o := .lst [y0, y1, y2]) hq3).trans (Ex.new (o := .lst (ys ++ [y0, y1, y2])) hp)
          refine ⟨p, ys ++ [y0, y1, y2], some x, rfl, fresh_back ((e3.trans e36).trans (Ex.new hq3)) hp, (e3.trans e36).trans e7, upd_same, ?_⟩
          rw [flat_take hr']
          refine Rows.append (R3.mono (e36.trans e7)) (.cons ?_ (.cons ?_ (.cons ?_ .nil)))
          · obtain ⟨a, ha, hb⟩ := r0
            exact ⟨a, ha, e7 _ _ (e6 _ _ (e5 _ _ hb))⟩
          · obtain ⟨a, ha, hb⟩ := r1
            exact ⟨a, ha, e7 _ _ (e6 _ _ hb)⟩
          · obtain ⟨a, ha, hb⟩ := r2
            exact ⟨a, ha, e7 _ _ hb⟩
      · rintro σ H3 ⟨l4, ys, u, rfl, hl4, e3, h4, R3⟩
        rw [R.len, List.take_length] at R3
        exact ⟨_, rfl, l4, ys, _, _, _, rfl, fresh_back e2 hl4, e2.trans e3, h4, R3⟩
    · rintro σ H2 ⟨l2, xs, v, v1, v2, rfl, hl0, e2, hl2, R⟩
      exact ⟨_, rfl, k l2 H2 xs hl0 e2 hl2 R⟩
abbrev slaw_at : Stmt := top 26
abbrev Nlaw_at : List Str := ["sheet_now", "some", "index_now", "each"]
theorem sclaw_at : FnScope Nlaw_at ["sheet_now", "some"] (defScope slaw_at) := ⟨rfl, rfl, rfl, by decide +kernel, rfl, by decide +kernel, by decide +kernel⟩
def spValue : Sp := fun vs H Q _ => ∃ (ds : List Nat) (n : Nat) (p : Addr) (as : List Nat), IsTab ds n ∧ vs = [.str (tab ds), .ref p] ∧ IsNums H p as ∧
  as.length = n ∧ (∀ a ∈ as, a < 3) ∧ Gives (.int (val ds as : Nat)) H Q
theorem ok_at (F : Fun K "_law_at" "_law_at" slaw_at f fd) (B : Blt mg) : FnG P w K mg base 1 f fd ["sheet_now", "some"] spValue := by
  refine fnG F sclaw_at (fun vs H Q E h => ?_) (fun cdv A fr s H vs Q E hr gd h => ?_)
  · obtain ⟨ds, n, p, as, _, rfl, _⟩ := h
    rfl
  · obtain ⟨ds, n, p, as, T, rfl, hp | hp, hl, hd, k⟩ := h
    refine ⟨_, (pss_cons (ps_set (i := 2) sclaw_at.nd rfl (Or.inl rfl) pe_int)
  (pss_cons (ps_for PassesOwn.never rfl (pi_tup (pv 1)) (pg_name (i := 3) sclaw_at.nd rfl (Or.inl rfl)) (pss_one (ps_set (i := 2) sclaw_at.nd rfl (Or.inl rfl) (pe_op op_add (pe_op op_mul pe_int (pv 2)) (pv 3)))))
  (pss_one (ps_ret (pe_callTy call_int_str (by rfl) B.m_int (by decide +kernel) (pa_cons (pe_ix ix_str (pv 0) (pv 2) (fun _ _ => rfl)) pa_nil)))))), ?_⟩
    refine ⟨_, rfl, p, rfl, ⟨_, SqT.of hp⟩, for_tup (K := K) (a := p) (xs := iv as)
      (fun i σ H2 => H2 = H ∧ ∃ v : Option V, σ = [some (.str (tab ds)), some (.ref p), some (.int (num (as.take i) : Nat)), v]) ⟨rfl, none, rfl⟩ (fun i σ H2 _ e => by rw [e.1]; exact SqT.of hp) ?_ ?_⟩
    · rintro i x σ H2 hi ⟨rfl, v, rfl⟩
      obtain ⟨a, ha, rfl⟩ := iv_at hi
      refine ⟨_, rfl, _, _, rfl, rfl, Or.inl ⟨by decide, by decide⟩, _, rfl, _, _, rfl, rfl, rfl, some (.int (a : Int)), ?_⟩
      rw [num_take ha]
      show [some (V.str (tab ds)), some (V.ref p), some (V.int (3 * ((num (as.take i) : Nat) : Int) + (a : Int))), some (V.int (a : Int))] = _
      have e : (3 * ((num (as.take i) : Nat) : Int) + (a : Int)) = ((3 * num (as.take i) + a : Nat) : Int) := by omega
      rw [e]
    · rintro σ H2 ⟨rfl, v, rfl⟩
      rw [iv_len, List.take_length]
      obtain ⟨g1, g2⟩ := T.at hl hd
      refine ⟨_, rfl, _, rfl, tab ds, _, 48 + val ds as, rfl, rfl, T.size, ?_, ⟨#[48 + val ds as]⟩, _, rfl, int_digit _ g2, (by show 1 ≤ 640; decide), k H2 (Ex.refl H2)⟩
      rw [tab_cps]
      exact atI_nat (by rw [List.getElem?_map, g1]; rfl)
    refine ⟨_, (pss_cons (ps_set (i := 2) sclaw_at.nd rfl (Or.inl rfl) pe_int)
  (pss_cons (ps_for PassesOwn.never rfl (pi_list (pv 1)) (pg_name (i := 3) sclaw_at.nd rfl (Or.inl rfl)) (pss_one (ps_set (i := 2) sclaw_at.nd rfl (Or.inl rfl) (pe_op op_add (pe_op op_mul pe_int (pv 2)) (pv 3)))))
  (pss_one (ps_ret (pe_callTy call_int_str (by rfl) B.m_int (by decide +kernel) (pa_cons (pe_ix ix_str (pv 0) (pv 2) (fun _ _ => rfl)) pa_nil)))))), ?_⟩
    refine ⟨_, rfl, p, rfl, ⟨_, SqL.of hp⟩, for_list (K := K) (a := p) (xs := iv as)
      (fun i σ H2 => H2 = H ∧ ∃ v : Option V, σ = [some (.str (tab ds)), some (.ref p), some (.int (num (as.take i) : Nat)), v]) ⟨rfl, none, rfl⟩ (fun i σ H2 _ e => by rw [e.1]; exact SqL.of hp) ?_ ?_⟩
    · rintro i x σ H2 hi ⟨rfl, v, rfl⟩
      obtain ⟨a, ha, rfl⟩ := iv_at hi
      refine ⟨_, rfl, _, _, rfl, rfl, Or.inl ⟨by decide, by decide⟩, _, rfl, _, _, rfl, rfl, rfl, some (.int (a : Int)), ?_⟩
      rw [num_take ha]
      show [some (V.str (tab ds)), some (V.ref p), some (V.int (3 * ((num (as.take i) : Nat) : Int) + (a : Int))), some (V.int (a : Int))] = _
      have e : (3 * ((num (as.take i) : Nat) : Int) + (a : Int)) = ((3 * num (as.take i) + a : Nat) : Int) := by omega
      rw [e]
    · rintro σ H2 ⟨rfl, v, rfl⟩
      rw [iv_len, List.take_length]
      obtain ⟨g1, g2⟩ := T.at hl hd
      refine ⟨_, rfl, _, rfl, tab ds, _, 48 + val ds as, rfl, rfl, T.size, ?_, ⟨#[48 + val ds as]⟩, _, rfl, int_digit _ g2, (by show 1 ≤ 640; decide), k H2 (Ex.refl H2)⟩
      rw [tab_cps]
      exact atI_nat (by rw [List.getElem?_map, g1]; rfl)
abbrev slaw_places : Stmt := top 27
abbrev Nlaw_places : List Str := ["sheet_now"]
theorem sclaw_places : FnScope Nlaw_places ["sheet_now"] (defScope slaw_places) := ⟨rfl, rfl, rfl, by decide +kernel, rfl, by decide +kernel, by decide +kernel⟩
theorem ok_lplaces (F : Fun K "_law_places" "_law_places" slaw_places f fd) (B : Blt mg) : FnG P w K mg base 1 f fd ["sheet_now"] spPlaces := by
  refine fnG F sclaw_places (fun vs H Q E h => ?_) (fun cdv A fr s H vs Q E hr gd h => ?_)
  · obtain ⟨ds, n, _, rfl, _⟩ := h
    rfl
  · obtain ⟨ds, n, T, rfl, k⟩ := h
    refine ⟨_, (pss_one (ps_ret (pe_op op_add (pe_bm PySem.F.plainAttrs_list PySem.F.slot_list_index PySem.F.type_list_index mt_index (pe_lst (pa_cons pe_int (pa_cons pe_int (pa_cons pe_int pa_nil)))) (pa_cons (pe_callB call_len (by rfl) B.m_len (by decide +kernel) (pa_cons (pv 0) pa_nil)) pa_nil)) pe_int))), ?_⟩
    refine ⟨by show 3 ≤ sizeLine; decide, fun l hl => ⟨Or.inl ⟨rfl, _, SqL.of upd_same⟩, _, rfl, .str (tab ds), (tab ds).length, rfl, ⟨T.size, rfl⟩, ?_⟩⟩
    have fin : ∀ j : Nat, n = j + 1 → Q (.int ((j : Int) + 1)) (upd H l (.lst [.int 3, .int 9, .int 27])) := fun j e => by
      have e2 : ((j : Int) + 1) = (n : Int) := by omega
      rw [e2]
      exact k _ (Ex.new hl)
    rcases T.cases with ⟨e, q⟩ | ⟨e, q⟩ | ⟨e, q⟩
    · refine ⟨l, _, _, 0, .int 3, rfl, rfl, SqL.of upd_same, rfl, rfl, rfl, ?_, fun m z hm => absurd hm (Nat.not_lt_zero _), _, _, rfl, rfl, fin 0 e⟩
      rw [tab_len, q]; decide
    · refine ⟨l, _, _, 1, .int 9, rfl, rfl, SqL.of upd_same, rfl, rfl, rfl, ?_, fun m z hm hz => ?_, _, _, rfl, rfl, fin 1 e⟩
      · rw [tab_len, q]; decide
      · obtain rfl : m = 0 := by omega
        cases hz
        rw [tab_len, q]; decide
    · refine ⟨l, _, _, 2, .int 27, rfl, rfl, SqL.of upd_same, rfl, rfl, rfl, ?_, fun m z hm hz => ?_, _, _, rfl, rfl, fin 2 e⟩
      · rw [tab_len, q]; decide
      · have : m = 0 ∨ m = 1 := by omega
        rcases this with rfl | rfl
        · cases hz
          rw [tab_len, q]; decide
        · cases hz
          rw [tab_len, q]; decide
abbrev slaw_table : Stmt := top 28
abbrev Nlaw_table : List Str := ["spring", "size", "known", "k"]
theorem sclaw_table : FnScope Nlaw_table ["spring", "size"] (defScope slaw_table) := ⟨rfl, rfl, rfl, by decide +kernel, rfl, by decide +kernel, by decide +kernel⟩
def spTable : Sp := fun vs H Q _ => ∃ (p : Addr) (n : Nat), vs = [.ref p, .int (n : Int)] ∧ Spr H p ∧ 1 ≤ n ∧ n ≤ 3 ∧
  ∀ (ds : List Nat) (H' : Hp), IsTab ds n → Spr H' p → But p H H' → Q (.str (tab ds)) H'
def known1 : List (List Nat) := [[0,1,2],[1,2,0],[2,0,1],[2,1,0],[1,0,2],[0,0,0],[1,1,1],[0,0,1],[1,2,2],[0,2,0]]
def known2a : List (List Nat) := [[0,1,2,1,1,2,2,2,2],[0,0,0,0,1,1,0,1,2],[0,1,2,1,2,0,2,0,1],[1,2,0,2,2,0,0,0,0],[0,0,0,1,1,1,2,2,2],[0,1,2,0,1,2,0,1,2]]
def known2b : List (List Nat) := [[0,0,0,0,0,0,0,1,2],[0,2,1,1,0,2,2,1,0]]
theorem known1_ok : ∀ ds ∈ known1, IsTab ds 1 := fun ds h => ⟨by decide, by decide, (by decide : ∀ ds ∈ known1, ds.length = 3 ^ 1) ds h, (by decide : ∀ ds ∈ known1, ∀ d ∈ ds, d < 3) ds h⟩
theorem known2_ok : ∀ ds ∈ known2a ++ known2b, IsTab ds 2 := fun ds h => ⟨by decide, by decide, (by decide : ∀ ds ∈ known2a ++ known2b, ds.length = 3 ^ 2) ds h, (by decide : ∀ ds ∈ known2a ++ known2b, ∀ d ∈ ds, d < 3) ds h⟩
theorem ok_table (F : Fun K "_law_table" "_law_table" slaw_table f fd) (B : Blt mg) (D__law_draw : DefG P w K mg base "_law_draw" ["spring", "size"] 1 spDraw)
    (D__law_of : DefG P w K mg base "_law_of" ["spring", "menu"] 2 (spOf K)) : FnG P w K mg base 3 f fd ["spring", "size"] spTable := by
  refine fnG F sclaw_table (fun vs H Q E h => ?_) (fun cdv A fr s H vs Q E hr gd h => ?_)
  · obtain ⟨p, n, rfl, _⟩ := h
    rfl
  · obtain ⟨p, n, rfl, S, n1, n3, k⟩ := h
    refine ⟨_, (pss_cons (ps_set (i := 2) sclaw_table.nd rfl (Or.inl rfl) (pe_lst (pa_cons (pe_lst (pa_cons pe_str (pa_cons pe_str (pa_cons pe_str (pa_cons pe_str (pa_cons pe_str (pa_cons pe_str (pa_cons pe_str (pa_cons pe_str (pa_cons pe_str (pa_cons pe_str pa_nil))))))))))) pa_nil)))
  (pss_cons (ps_expr (pe_bm PySem.F.plainAttrs_list PySem.F.slot_list_append PySem.F.type_list_append mt_append (pv 2) (pa_cons (pe_lst (pa_cons pe_str (pa_cons pe_str (pa_cons pe_str (pa_cons pe_str (pa_cons pe_str (pa_cons pe_str pa_nil))))))) pa_nil)))
  (pss_cons (ps_asg (pe_op op_cat (pe_ix ix_list (pv 2) pe_int (fun _ _ => rfl)) (pe_lst (pa_cons pe_str (pa_cons pe_str pa_nil)))) (pg_sub (pv 2) pe_int set_list))
  (pss_cons (ps_if (PW.pt (pw_and (pt_cmpR op_lt (pv 1) pe_int (nomark _)) (pw_and1 (pt_cmpR op_eq (pe_def D__law_draw (hr.mono (by decide)) gd rfl (pa_cons (pv 0) (pa_cons pe_int pa_nil))) pe_int (nomark _))))) (pss_one (ps_ret (pe_def D__law_of (hr.mono (by decide)) gd rfl (pa_cons (pv 0) (pa_cons (pe_ix ix_list (pv 2) (pe_op op_sub (pv 1) pe_int) (fun _ _ => rfl)) pa_nil))))) pss_nil)
  (pss_one (ps_ret (show PE _ _ (tM1 (rJoin K) _ _) from pe_join pe_str (pe_lc (own := [("k", 3)]) (g := gName 3) rfl sclaw_table.nd (pi_range1 rfl B.m_range (pa_cons (pe_ix ix_list (pe_lst (pa_cons pe_int (pa_cons pe_int (pa_cons pe_int pa_nil)))) (pe_op op_sub (pv 1) pe_int) (fun _ _ => rfl)) pa_nil)) (blkOk_by (own := [("k", 3)]) (N := Nlaw_table) (sc := defScope slaw_table) (by decide +kernel)) (fun _ _ _ _ _ => (pg_name (i := 3) sclaw_table.nd rfl (Or.inl rfl))) (fun _ _ _ _ _ => pts_nil) (fun _ _ _ _ _ => (pe_callTy call_str_int (by rfl) B.m_str (by decide +kernel) (pa_cons (pe_def D__law_draw (hr.mono (by decide)) gd rfl (pa_cons (pv 0) (pa_cons pe_int pa_nil))) pa_nil))))))))))), ?_⟩
    refine ⟨by show 10 ≤ sizeLine; decide, fun l0 h0 => ⟨by show 1 ≤ sizeLine; decide, fun lk hk => ?_⟩⟩
    refine ⟨_, rfl, Or.inl ⟨rfl, _, SqL.of upd_same⟩, by show 6 ≤ sizeLine; decide, fun l1 h1 => ?_⟩
    have k1 : lk ≠ l1 := ne_of_none upd_same h1
    refine ⟨lk, _, _, rfl, rfl, by rw [upd_ne k1]; exact upd_same, by show 1 < sizeLine; decide, ?_⟩
    have k0 : l0 ≠ lk := ne_of_none upd_same hk
    refine ⟨_, rfl, lk, _, 1, .ref l1, rfl, rfl, SqL.of upd_same, rfl, by show 2 ≤ sizeLine; decide, fun l2 h2 => ?_⟩
    have k2 : lk ≠ l2 := ne_of_none upd_same h2
    have e12 : l1 ≠ l2 := ne_of_none (by rw [upd_ne k1.symm]; exact upd_same) h2
    refine ⟨l1, l2, _, _, rfl, rfl, by rw [upd_ne e12, upd_ne k1.symm]; exact upd_same, upd_same, by show 8 ≤ sizeLine; decide, fun l3 h3 => ?_⟩
    have k3 : lk ≠ l3 := ne_of_none (by rw [upd_ne k2]; exact upd_same) h3
    refine ⟨_, rfl, lk, _, 1, 1, rfl, rfl, by rw [upd_ne k3, upd_ne k2]; exact upd_same, rfl, ?_⟩
    refine gen_app fun H0 eH => ?_
    have e1 := Ex.new (o := .lst (known1.map fun ds => V.str (tab ds))) h0
    have e2 := e1.trans (Ex.new (o := .lst [V.ref l0]) hk)
    have e3 := e2.trans (Ex.new (o := .lst (known2a.map fun ds => V.str (tab ds))) h1)
    have e4 := Ex.mut (o := .lst [V.ref l0, V.ref l1]) e3 (fresh_back e1 hk)
    have e5 := e4.trans (Ex.new (o := .lst (known2b.map fun ds => V.str (tab ds))) h2)
    have e6 := e5.trans (Ex.new (o := .lst ((known2a ++ known2b).map fun ds => V.str (tab ds))) h3)
    have e7 : Ex H H0 := by rw [eH]; exact Ex.mut (o := .lst [V.ref l0, V.ref l3]) e6 (fresh_back e1 hk)
    have q3 : H0 l3 = some (.lst ((known2a ++ known2b).map fun ds => V.str (tab ds))) := by rw [eH, upd_ne k3.symm]; exact upd_same
    have q0 : H0 l0 = some (.lst (known1.map fun ds => V.str (tab ds))) := by
      have a1 : l0 ≠ l1 := ne_of_none (by rw [upd_ne k0]; exact upd_same) h1
      have a2 : l0 ≠ l2 := ne_of_none (by rw [upd_ne k0, upd_ne a1, upd_ne k0]; exact upd_same) h2
      have a3 : l0 ≠ l3 := ne_of_none (by rw [upd_ne a2, upd_ne k0, upd_ne a1, upd_ne k0]; exact upd_same) h3
      rw [eH, upd_ne k0, upd_ne a3, upd_ne a2, upd_ne k0, upd_ne a1, upd_ne k0]
      exact upd_same
    have qk : H0 lk = some (.lst [V.ref l0, V.ref l3]) := by rw [eH]; exact upd_same
    clear eH e1 e2 e3 e4 e5 e6 h3 h2 h1 hk k1 k2 k3 k0 e12
    obtain ⟨sx, sm, sc, hp, sx0, sm0, sm1⟩ := S
    have hp0 := e7 _ _ hp
    have S0 : Spr H0 p := ⟨sx, sm, sc, hp0, sx0, sm0, sm1⟩
    have npk : lk ≠ p := fun z => by rw [z, hp0] at qk; cases qk
    have np0 : l0 ≠ p := fun z => by rw [z, hp0] at q0; cases q0
    have np3 : l3 ≠ p := fun z => by rw [z, hp0] at q3; cases q3
    -- the digits, one by one
    have rest : ∀ H1 : Hp, Spr H1 p → But p H0 H1 → tRet (tM1 (rJoin K) (tC (V.str (Str.ofString ""))) (tLc (iRng1 (tCons (tOp (rIxL K) (tLst (tCons (tC (V.int 3)) (tCons (tC (V.int 9)) (tCons (tC (V.int 27)) tNil))))
        (tOp (rI0 fun i j => V.int (i - j)) (tVar 1) (tC (V.int 1)))) tNil)) (gName 3) tYes
        (tCB (fun xs H Q => ∃ i : Int, xs = [V.int i] ∧ i.natAbs.log2 < 1920 ∧ Q (V.str (toString i)) H) (tCons (tDef spDraw (tCons (tVar 0) (tCons (tC (V.int 3)) tNil))) tNil)) [3]))
        { nx := fun _ H' => Q .non H', rt := Q } [some (.ref p), some (.int (n : Int)), some (.ref lk), none] H1 := fun H1 S1 b1 => by
      have lv : atI [V.int 3, V.int 9, V.int 27] ((n : Int) - 1) = some (.int ((3 ^ n : Nat) : Int)) := by
        have : n = 1 ∨ n = 2 ∨ n = 3 := by omega
        rcases this with rfl | rfl | rfl <;> rfl
      have g0 : (0 : Int) ≤ ((3 ^ n : Nat) : Int) := Int.natCast_nonneg _
      have g1 : ((3 ^ n : Nat) : Int) ≤ 27 := Int.ofNat_le.mpr (Nat.le_trans (Nat.pow_le_pow_right (by decide) n3) (by decide))
      have big : 3 ^ n ≤ 27 := Nat.le_trans (Nat.pow_le_pow_right (by decide) n3) (by decide)
      refine ⟨⟨_, rfl⟩, by show 3 ≤ sizeLine; decide, fun li hli => ⟨_, rfl, _, _, rfl, rfl, li, _, _, _, rfl, rfl, SqL.of upd_same, lv, ((3 ^ n : Nat) : Int), rfl, by omega, by omega, fun D hD => ?_⟩⟩
      have nD : D ≠ p := fun z => by
        obtain ⟨_, _, _, h, _⟩ := S1
        rw [z, upd_ne (ne_of_none h hli), h] at hD
        cases hD
      refine lc_range (lo := 0) (n := 3 ^ n) (fun i H2 => Spr H2 p ∧ But p H1 H2 ∧ ∃ ds : List Nat, ds.length = i ∧ (∀ d ∈ ds, d < 3) ∧ H2 D = some (.lst (signs_ ds))) ?_ ?_ ?_
      · refine ⟨?_, fun b o nb h => ?_, [], rfl, fun d hd => (by cases hd), upd_same⟩
        · obtain ⟨x, m, c, h, r⟩ := S1
          have np : p ≠ li := ne_of_none h hli
          exact ⟨x, m, c, by rw [upd_ne nD.symm, upd_ne np]; exact h, r⟩
        · have nl : b ≠ li := ne_of_none h hli
          rw [upd_ne (ne_of_none (by rw [upd_ne nl]; exact h) hD), upd_ne nl]
          exact h
      · rintro i H2 hi ⟨S2, b2, ds, dl, dd, hD2⟩
        refine ⟨rfl, yes_go ?_⟩
        refine ⟨_, rfl, p, 3, rfl, S2, by decide, by decide, fun d H3 d0 d3 S3 b3 => ?_⟩
        obtain ⟨m, rfl⟩ := Int.eq_ofNat_of_zero_le d0
        have m3 : m < 3 := by omega
        have sh : (m : Int).natAbs.log2 < 1920 := by
          have : m = 0 ∨ m = 1 ∨ m = 2 := by omega
          rcases this with rfl | rfl | rfl <;> decide
        refine ⟨(m : Int), rfl, sh, signs_ ds, b3 _ _ nD hD2, ?_, ?_, fun b o nb h => ?_, ds ++ [m], by simp [dl], fun d hd => ?_, ?_⟩
        · unfold signs_
          rw [List.length_map, List.length_map, dl]
          exact Nat.lt_of_lt_of_le (by omega : i < 28) (by decide)
        · obtain ⟨x, y, c, h, r⟩ := S3
          exact ⟨x, y, c, by rw [upd_ne nD.symm]; exact h, r⟩
        · rw [upd_ne (ne_of_none (by rw [upd_ne (ne_of_none h hli)]; exact h) hD)]
          exact b3 b o nb (b2 b o nb h)
        · rcases List.mem_append.mp hd with h | h
          · exact dd d h
          · obtain rfl := List.mem_singleton.mp h
            exact m3
        · rw [upd_same, ← signs_snoc]
          have := str_digit m m3
          rw [this]
      · rintro H2 ⟨S2, b2, ds, dl, dd, hD2⟩
        have q := k ds H2 ⟨n1, n3, dl, dd⟩ S2 (((But.of e7).trans b1).trans b2)
        rw [← join_tab] at q
        refine ⟨_, D, _, rfl, rfl, Or.inl (SqL.of hD2), ?_, q⟩
        have e : ∀ l : List Nat, ((l.map fun d => (⟨#[48 + d]⟩ : Str)).map (·.length)).sum = l.length := by
          intro l
          induction l with
          | nil => rfl
          | cons d r ih =>
            rw [List.map_cons, List.map_cons, List.sum_cons, ih, List.length_cons]
            show 1 + r.length = _
            omega
        have e0 : (Str.ofString "").length = 0 := rfl
        rw [e, e0, List.length_map]
        omega
    -- if size < 3 and ..
    refine ⟨_, rfl, _, _, rfl, rfl, _, rfl, ?_⟩
    by_cases c3 : (n : Int) < 3
    · rw [decide_eq_true c3]
      refine iteT ⟨_, rfl, p, 2, rfl, S0, by decide, by decide, fun d H1 d0 d2 S1 b1 => ⟨rfl, _, rfl, ?_⟩⟩
      by_cases dz : V.int d = V.int 0
      · rw [decide_eq_true dz]
        have fin : ∀ (l : Addr) (L : List (List Nat)), l ≠ p → H1 l = some (.lst (L.map fun ds => V.str (tab ds))) → L ≠ [] → L.length ≤ 100 → (∀ ds ∈ L, IsTab ds n) → spOf K [.ref p, .ref l] H1 Q E0 := fun l L nl hl ne few ok =>
          ⟨p, l, _, rfl, nl, S1, SqL.of hl, by simpa using ne, by rw [List.length_map]; omega, fun v H2 hv S2 b2 => by
            obtain ⟨ds, hds, rfl⟩ := List.mem_map.mp hv
            exact k ds H2 (ok ds hds) S2 (((But.of e7).trans b1).trans b2)⟩
        have n12 : n = 1 ∨ n = 2 := by omega
        rcases n12 with rfl | rfl
        · refine iteT ⟨_, rfl, _, rfl, _, rfl, _, _, rfl, rfl, lk, _, _, .ref l0, rfl, rfl, SqL.of (b1 _ _ npk qk), rfl, ?_⟩
          exact fin l0 known1 np0 (b1 _ _ np0 q0) (by decide) (by decide) known1_ok
        · refine iteT ⟨_, rfl, _, rfl, _, rfl, _, _, rfl, rfl, lk, _, _, .ref l3, rfl, rfl, SqL.of (b1 _ _ npk qk), rfl, ?_⟩
          exact fin l3 (known2a ++ known2b) np3 (b1 _ _ np3 q3) (by decide) (by decide) known2_ok
      · rw [decide_eq_false dz]
        exact iteF (rest H1 S1 b1)
    · rw [decide_eq_false c3]
      exact iteF (iteF (rest H0 S0 fun _ _ _ h => h))
end
end Tv

namespace Tv
open PySem PySem.Spec PyProof.Rows L2 Evl
/-- the further built-in names -/
structure Blt3 (mg : Str → Option Value) : Prop where
  m_list : mg "list" = none
  m_sorted : mg "sorted" = none
  m_zip : mg "zip" = none
section
variable {P : Program} {w : World} {K : PySem.W.Frag} {mg : Str → Option Value} {base : Heap} {f aL : Addr} {fd : FuncData}
section
variable {σ : L2.St} {H : Hp} {te : TE}
theorem ev_isTup {p : Addr} {xs : List V} (h : Ev te σ H (.ref p)) (hp : Rd H p (.tup xs)) : Ev (tCB (rIsi K) (tCons te (tCons (tC (.ty "tuple")) tNil))) σ H (.bl true) :=
  fun H1 e Q q => h H1 e _ fun H2 e2 => ⟨.ref p, .ty "tuple", _, _, true, rfl, .ty _, (by
    rcases ex_rd e2 (ex_rd e hp) with z | ⟨o, z⟩
    · exact .base (.tup z)
    · exact .fTuple z), kit_ty (by decide +kernel), q H2 e2⟩
theorem rd_but {p c : Addr} {H H' : Hp} {u : HO} (b : ∀ x o, x ≠ p → H x = some o → H' x = some o) (ne : c ≠ p) (h : Rd H c u) : Rd H' c u := by
  rcases h with h | ⟨o, h⟩
  · exact .inl (b _ _ ne h)
  · exact .inr ⟨o, b _ _ ne h⟩
theorem ev_isStr {x : Str} (h : Ev te σ H (.str x)) : Ev (tCB (rIsi K) (tCons te (tCons (tC (.ty "str")) tNil))) σ H (.bl true) :=
  fun H1 e Q q => h H1 e _ fun H2 e2 => ⟨.str x, .ty "str", _, _, true, rfl, .ty _, .base (.str x), kit_ty (by decide +kernel), q H2 e2⟩
theorem ev_lenTup {p : Addr} {xs : List V} (h : Ev te σ H (.ref p)) (hx : Rd H p (.tup xs)) :
    Ev (tCB (fun xs H Q => ∃ x n, xs = [x] ∧ LenV K x H n ∧ Q (.int (n : Nat)) H) (tCons te tNil)) σ H (.int (xs.length : Nat)) :=
  fun H1 e Q q => h H1 e _ fun H2 e2 => ⟨.ref p, xs.length, rfl, Or.inr ⟨xs, Or.inl (ex_rd e2 (ex_rd e hx)), rfl⟩, q H2 e2⟩
theorem trues (m : Nat) : (List.replicate m true).map V.bl = given m (fun _ => true) (fun _ => .bl true) := by
  unfold given
  rw [List.filter_eq_self.mpr fun _ _ => rfl, List.map_replicate, List.map_const', List.length_range]
theorem all_trues (m : Nat) : (List.replicate m true).all id = true := by simp
end
/-- the orders of n places -/
def ords : Nat → List (List Nat)
  | 1 => [[0]]
  | 2 => [[0, 1], [1, 0]]
  | 3 => [[0, 1, 2], [0, 2, 1], [1, 0, 2], [1, 2, 0], [2, 0, 1], [2, 1, 0]]
  | _ => []
theorem ords_ok : ∀ n, n ≤ 3 → ∀ o ∈ ords n, o.length = n ∧ (∀ x ∈ o, x < n) ∧ o.isPerm (List.range n) = true := by decide
def spIsOrder : Sp := fun vs H Q _ => ∃ (p : Addr) (o : List Nat) (n : Nat), vs = [.ref p, .int (n : Int)] ∧ Rd H p (.tup (iv o)) ∧ n ≤ 3 ∧ o ∈ ords n ∧ Gives (.bl true) H Q
theorem sorted_is {n : Nat} {o : List Nat} {ms : List Int} (n3 : n ≤ 3) (ho : o ∈ ords n) (pm : ms.Perm (o.map fun (a : Nat) => (a : Int))) (so : ms.Pairwise (· ≤ ·)) : ms = (List.range n).map fun (a : Nat) => (a : Int) := by
  have pr := List.isPerm_iff.mp (ords_ok n n3 o ho).2.2
  have pm2 : ms.Perm ((List.range n).map fun (a : Nat) => (a : Int)) := pm.trans (pr.map _)
  have sr : ((List.range n).map fun (a : Nat) => (a : Int)).Pairwise (· ≤ ·) := by
    have : n = 0 ∨ n = 1 ∨ n = 2 ∨ n = 3 := by omega
    rcases this with rfl | rfl | rfl | rfl <;> decide
  exact List.Perm.eq_of_pairwise (fun a b _ _ h1 h2 => Int.le_antisymm h1 h2) so sr pm2
abbrev sis_order : Stmt := top 8
abbrev Nis_order : List Str := ["x", "count", "y"]
theorem scis_order : FnScope Nis_order ["x", "count"] (defScope sis_order) := ⟨rfl, rfl, rfl, by decide +kernel, rfl, by decide +kernel, by decide +kernel⟩
theorem ok_is_order (F : Fun K "is_order" "is_order" sis_order f fd) (B : Blt mg) (B3 : Blt3 mg) (D_is_integer : DefG P w K mg base "is_integer" ["x"] 1 spIsInt) : FnG P w K mg base 2 f fd ["x", "count"] spIsOrder := by
  refine fnG F scis_order (fun vs H Q E h => ?_) (fun cdv A fr s H vs Q E hr gd h => ?_)
  · obtain ⟨p, o, n, rfl, _⟩ := h
    rfl
  · obtain ⟨p, o, n, rfl, hp, n3, ho, k⟩ := h
    refine ⟨_, (pss_cons (ps_if (PW.pt (pw_or (pt_not (pt_val (pe_callB call_isi (by rfl) B.m_isinstance (by decide +kernel) (pa_cons (pv 0) (pa_cons (pe_bltn (v := .ty "tuple") rfl B.m_tuple (by decide +kernel) rfl) pa_nil))))) (pw_or1 (pt_not (pt_val (pe_callB (cr_all rfl) (by rfl) B.m_all (by decide +kernel) (pa_cons (pe_lc (own := [("y", 2)]) (g := gName 2) rfl scis_order.nd (pi_tup (pv 0)) (blkOk_by (own := [("y", 2)]) (N := Nis_order) (sc := defScope sis_order) (by decide +kernel)) (fun _ _ _ _ _ => (pg_name (i := 2) scis_order.nd rfl (Or.inl rfl))) (fun _ _ _ _ _ => pts_nil) (fun _ _ _ _ _ => (pe_def D_is_integer (hr.mono (by decide)) gd rfl (pa_cons (pv 2) pa_nil)))) pa_nil))))))) (pss_one (ps_ret pe_bl)) pss_nil)
  (pss_one (ps_ret (pe_cmpR (op_eqD (hr.units)) (pe_callB cr_sortedT (by rfl) B3.m_sorted (by decide +kernel) (pa_cons (pv 0) pa_nil)) (pe_listRg rfl rfl B3.m_list (prg_1 rfl B.m_range (pv 1))) (nomark _))))), ?_⟩
    have ol := (ords_ok n n3 o ho).1
    refine q_pass (et_is (et_or (et_not (et_B (ev_isTup (ev_var rfl) hp))) fun _ => et_not (et_B (ev_allN (bs := List.replicate (iv o).length true) ?_))) (by rw [all_trues]; rfl)) fun H1 e1 => ?_
    · rw [trues]
      refine el_lcT (a := p) (xs := iv o) (fun _ => true) (fun _ => .bl true) (ev_var rfl) (Or.inl hp) (by rw [iv_len]; omega) (fun y => rfl) (fun i x H1 e hx => et_yes) (fun i x H1 e hx _ => ?_)
      obtain ⟨a, _, rfl⟩ := iv_at hx
      exact ev_def (ea_cons (ev_var rfl) ea_nil) fun H2 e2 Q q => ⟨(a : Int), rfl, q⟩
    refine s_ret (v := .bl true) (fun H2 e2 Q2 q2 => ?_) fun H2 e2 => k H2 (e1.trans e2)
    have hp2 := ex_rd e2 (ex_rd e1 hp)
    have ev : iv o = (o.map fun (a : Nat) => (a : Int)).map V.int := by unfold iv; rw [List.map_map]; rfl
    refine ⟨_, rfl, p, o.map fun (a : Nat) => (a : Int), rfl, Or.inl (by rw [← ev]; exact hp2), by rw [List.length_map]; omega, fun ms q1 pm so hq1 => ?_⟩
    refine ⟨_, rfl, (n : Int), rfl, RgOk.of_le (by omega) (by omega) (by omega) (by omega), fun q3 hq3 => ?_⟩
    have em := sorted_is n3 ho pm so
    have er : rgV 0 (n : Int) = ms.map V.int := by
      rw [em]
      unfold rgV
      rw [List.map_map, Int.sub_zero, Int.toNat_natCast]
      exact List.map_congr_left fun i _ => by show V.int (0 + (i : Int)) = V.int (i : Int); rw [Int.zero_add]
    have e3 := Ex.new (o := .lst (rgV 0 (n : Int))) hq3
    have ex := (Ex.new (o := .lst (ms.map V.int)) hq1).trans e3
    refine ⟨.list (dInts ms), .list (dInts ms), .lst (sq_of (e3 _ _ upd_same)) (dp_ints ms), .lst (sq_of (by rw [upd_same, er])) (dp_ints ms), ?_, ?_, ?_⟩
    · rw [em]
      have : n = 0 ∨ n = 1 ∨ n = 2 ∨ n = 3 := by omega
      rcases this with rfl | rfl | rfl | rfl <;> decide
    · rw [em]
      have : n = 0 ∨ n = 1 ∨ n = 2 ∨ n = 3 := by omega
      rcases this with rfl | rfl | rfl | rfl <;> decide
    · have eq : PyData.eqv (.list (dInts ms)) (.list (dInts ms)) = true := by
        rw [em]
        have : n = 0 ∨ n = 1 ∨ n = 2 ∨ n = 3 := by omega
        rcases this with rfl | rfl | rfl | rfl <;> decide
      rw [eq]
      exact q2 _ ex
abbrev smust_be_order : Stmt := top 12
abbrev Nmust_be_order : List Str := ["x", "count"]
theorem scmust_be_order : FnScope Nmust_be_order ["x", "count"] (defScope smust_be_order) := ⟨rfl, rfl, rfl, by decide +kernel, rfl, by decide +kernel, by decide +kernel⟩
def spMustOrder : Sp := fun vs H Q _ => ∃ (p : Addr) (o : List Nat) (n : Nat), vs = [.ref p, .int (n : Int)] ∧ Rd H p (.tup (iv o)) ∧ n ≤ 3 ∧ o ∈ ords n ∧ Gives .non H Q
theorem ok_must_be_order (F : Fun K "must_be_order" "must_be_order" smust_be_order f fd) (D_is_order : DefG P w K mg base "is_order" ["x", "count"] 2 spIsOrder) : FnG P w K mg base 3 f fd ["x", "count"] spMustOrder := by
  refine fnG F scmust_be_order (fun vs H Q E h => ?_) (fun cdv A fr s H vs Q E hr gd h => ?_)
  · obtain ⟨p, o, n, rfl, _⟩ := h
    rfl
  · obtain ⟨p, o, n, rfl, hp, n3, ho, k⟩ := h
    refine ⟨_, (pss_one (ps_if (pt_not (pt_val (pe_def D_is_order (hr.mono (by decide)) gd rfl (pa_cons (pv 0) (pa_cons (pv 1) pa_nil))))) (pss_one ps_never) pss_nil)), ?_⟩
    exact ⟨_, rfl, _, rfl, p, o, n, rfl, hp, n3, ho, fun H1 e1 => ⟨true, rfl, iteF (k H1 e1)⟩⟩
abbrev sare_tables : Stmt := top 10
abbrev Nare_tables : List Str := ["x", "count", "y"]
theorem scare_tables : FnScope Nare_tables ["x", "count"] (defScope sare_tables) := ⟨rfl, rfl, rfl, by decide +kernel, rfl, by decide +kernel, by decide +kernel⟩
/-- a tuple of tables of m places -/
def spAreTables : Sp := fun vs H Q _ => ∃ (p : Addr) (ts : List (List Nat)) (m : Nat), vs = [.ref p, .int (ts.length : Nat)] ∧ H p = some (.tup (ts.map fun t => V.str (tab t))) ∧ 1 ≤ ts.length ∧ ts.length ≤ 3 ∧
  (∀ t ∈ ts, IsTab t m) ∧ Gives (.bl true) H Q
theorem ok_are_tables (F : Fun K "are_tables" "are_tables" sare_tables f fd) (B : Blt mg) (D_is_table : DefG P w K mg base "is_table" ["x"] 1 spIsTable) : FnG P w K mg base 2 f fd ["x", "count"] spAreTables := by
  refine fnG F scare_tables (fun vs H Q E h => ?_) (fun cdv A fr s H vs Q E hr gd h => ?_)
  · obtain ⟨p, ts, m, rfl, _⟩ := h
    rfl
  · obtain ⟨p, ts, m, rfl, hp, l1, l3, T, k⟩ := h
    refine ⟨_, (pss_cons (ps_if (PW.pt (pw_or (pt_not (pt_val (pe_callB call_isi (by rfl) B.m_isinstance (by decide +kernel) (pa_cons (pv 0) (pa_cons (pe_bltn (v := .ty "tuple") rfl B.m_tuple (by decide +kernel) rfl) pa_nil))))) (pw_or (pt_cmpR op_ne (pe_callB call_len (by rfl) B.m_len (by decide +kernel) (pa_cons (pv 0) pa_nil)) (pv 1) (nomark _)) (pw_or1 (pt_not (pt_val (pe_callB (cr_all rfl) (by rfl) B.m_all (by decide +kernel) (pa_cons (pe_lc (own := [("y", 2)]) (g := gName 2) rfl scare_tables.nd (pi_tup (pv 0)) (blkOk_by (own := [("y", 2)]) (N := Nare_tables) (sc := defScope sare_tables) (by decide +kernel)) (fun _ _ _ _ _ => (pg_name (i := 2) scare_tables.nd rfl (Or.inl rfl))) (fun _ _ _ _ _ => pts_nil) (fun _ _ _ _ _ => (pe_def D_is_table (hr.mono (by decide)) gd rfl (pa_cons (pv 2) pa_nil)))) pa_nil)))))))) (pss_one (ps_ret pe_bl)) pss_nil)
  (pss_one (ps_ret (pe_callB (cr_all rfl) (by rfl) B.m_all (by decide +kernel) (pa_cons (pe_lc (own := [("y", 2)]) (g := gName 2) rfl scare_tables.nd (pi_tup (pv 0)) (blkOk_by (own := [("y", 2)]) (N := Nare_tables) (sc := defScope sare_tables) (by decide +kernel)) (fun _ _ _ _ _ => (pg_name (i := 2) scare_tables.nd rfl (Or.inl rfl))) (fun _ _ _ _ _ => pts_nil) (fun _ _ _ _ _ => (pe_cmpR op_eq (pe_callB (show CallR _ _ (fun xs H Q => ∃ x n, xs = [x] ∧ LenV K x H n ∧ Q (.int (n : Nat)) H) from call_len) (by rfl) B.m_len (by decide +kernel) (pa_cons (pv 2) pa_nil)) (pe_callB (show CallR _ _ (fun xs H Q => ∃ x n, xs = [x] ∧ LenV K x H n ∧ Q (.int (n : Nat)) H) from call_len) (by rfl) B.m_len (by decide +kernel) (pa_cons (pe_ix (show IxR _ (rIxT K) from ix_tup) (pv 0) pe_int (fun _ _ => rfl)) pa_nil)) (nomark _)))) pa_nil))))), ?_⟩
    have len : (ts.map fun t => V.str (tab t)).length = ts.length := List.length_map ..
    have item : ∀ {i : Nat} {x : V}, (ts.map fun t => V.str (tab t))[i]? = some x → ∃ t, x = .str (tab t) ∧ IsTab t m := fun {i x} hx => by
      rw [List.getElem?_map] at hx
      cases e : ts[i]? with
      | none => rw [e] at hx; cases hx
      | some t => rw [e] at hx; exact ⟨t, (Option.some.inj hx).symm, T t (List.mem_of_getElem? e)⟩
    refine q_pass (et_is (et_or (et_not (et_B (ev_isTup (ev_var rfl) (.inl hp)))) fun _ => et_or (et_test (ev_op (ev_lenTup (ev_var rfl) (.inl hp)) (ev_var rfl) (rv_ne rfl))) fun _ =>
      et_not (et_B (ev_allN (bs := List.replicate (ts.map fun t => V.str (tab t)).length true) ?_))) (by rw [all_trues, len]; simp)) fun H1 e1 => ?_
    · rw [trues]
      refine el_lcT (a := p) (xs := ts.map fun t => V.str (tab t)) (fun _ => true) (fun _ => .bl true) (ev_var rfl) (st_of hp) (by rw [len]; omega) (fun y => rfl) (fun i x H1 e hx => et_yes) (fun i x H1 e hx _ => ?_)
      obtain ⟨t, rfl, ht⟩ := item hx
      exact ev_def (ea_cons (ev_var rfl) ea_nil) fun H2 e2 Q q => ⟨t, m, ht, rfl, q⟩
    refine s_ret (v := .bl ((List.replicate (ts.map fun t => V.str (tab t)).length true).all id)) (ev_allN ?_) fun H2 e2 => by rw [all_trues]; exact k H2 (e1.trans e2)
    rw [trues]
    have hp1 := e1 _ _ hp
    refine el_lcT (a := p) (xs := ts.map fun t => V.str (tab t)) (fun _ => true) (fun _ => .bl true) (ev_var rfl) (st_of hp1) (by rw [len]; omega) (fun y => rfl) (fun i x H1 e hx => et_yes) (fun i x H2 e hx _ => ?_)
    obtain ⟨t, rfl, ht⟩ := item hx
    obtain ⟨t0, h0⟩ : ∃ t0, (ts.map fun t => V.str (tab t))[0]? = some (.str (tab t0)) ∧ IsTab t0 m := by
      have lt : 0 < (ts.map fun t => V.str (tab t)).length := by omega
      obtain ⟨t0, e0, hT⟩ := item (List.getElem?_eq_getElem lt)
      exact ⟨t0, by rw [List.getElem?_eq_getElem lt, e0], hT⟩
    refine ev_is (ev_op (ev_str_len (ev_var rfl) ht.size) (ev_str_len (ev_op (ev_var rfl) ev_c (rv_ixT (st_of (e _ _ hp1)) (atI_nat (j := 0) h0.1))) h0.2.size) (rv_eq rfl)) ?_
    rw [tab_len, tab_len, ht.len, h0.2.len]
    simp
end
end Tv

namespace Tv
open PySem PySem.Spec PyProof.Rows L2 Evl
section
variable {P : Program} {w : World} {K : PySem.W.Frag} {mg : Str → Option Value} {base : Heap} {f aL : Addr} {fd : FuncData}
section
variable {σ : L2.St} {H : Hp} {te tl to : TE}
/-- over texts side by side -/
theorem el_zips {p : Addr} {ys : List Str} {m j : Nat} {vs : List Nat} (v : Nat → V) (h : Ev tl σ H (.ref p)) (hp : SqT K H p (ys.map V.str)) (l1 : 1 ≤ ys.length) (l3 : ys.length ≤ 3)
    (same : ∀ y ∈ ys, y.cps.size = m ∧ y.cps.all (· < 128) = true) (mz : m ≤ 1000) (hw : ∀ x, wipe ((wipe σ vs).set j (some x)) vs = wipe σ vs)
    (he : ∀ (i : Nat) (T : Addr) H1, Ex H H1 → i < m → H1 T = some (.tup (ys.map (signAt i))) → Ev te ((wipe σ vs).set j (some (.ref T))) H1 (v i)) :
    EvL (tLc (iZips K tl) (gName j) tYes te vs) σ H (given m (fun _ => true) v) := fun H0 e Q q => h H0 e _ fun H1 e1 =>
  ⟨p, ys, m, rfl, ex_t (e.trans e1) hp, l1, l3, same, fun D hD => lc_zips (ys := ys) (m := m) (Cw H1 (fun _ => true) v D) ⟨hD, Ex.new hD, upd_same⟩ (fun i T H' hi none_ pc => ⟨hw _, by
      obtain ⟨p1, p2, p3⟩ := pc
      have eT := Ex.new (o := .tup (ys.map (signAt i))) none_
      refine yes_go (he i T _ ((e.trans e1).trans (p2.trans eT)) hi upd_same _ (Ex.refl _) _ fun H4 e4 => ⟨given i (fun _ => true) v, e4 _ _ (eT _ _ p3), ?_, p1, Ex.mut (p2.trans (eT.trans e4)) p1, ?_⟩)
      · have := given_len i (fun _ => true) v
        exact Nat.lt_of_le_of_lt (by omega : _ ≤ 1000) (by decide)
      · rw [given_yes rfl]
        exact upd_same⟩)
    (fun H' pc => q D H' (fresh_back e1 pc.1) (e1.trans pc.2.1) pc.2.2)⟩
theorem ev_joinTup {p : Addr} {ds : List Nat} (h1 : Ev to σ H (.str (Str.ofString ""))) (h2 : Ev te σ H (.ref p)) (hp : H p = some (.tup ((ds.map fun d => (⟨#[48 + d]⟩ : Str)).map V.str))) (z : ds.length ≤ 1000) :
    Ev (tM1 (rJoin K) to te) σ H (.str (tab ds)) := fun H1 e Q q => h1 H1 e _ fun H2 e2 => ⟨⟨_, rfl⟩, h2 H2 (e.trans e2) _ fun H3 e3 =>
  ⟨Str.ofString "", p, ds.map fun d => (⟨#[48 + d]⟩ : Str), rfl, rfl, Or.inr (st_of (e3 _ _ (e2 _ _ (e _ _ hp)))), by
    have e0 : (Str.ofString "").length = 0 := rfl
    have e9 : ((ds.map fun d => (⟨#[48 + d]⟩ : Str)).map (·.length)).sum = ds.length := by
      clear h2 hp z q
      induction ds with
      | nil => rfl
      | cons d r ih =>
        rw [List.map_cons, List.map_cons, List.sum_cons, ih, List.length_cons]
        show 1 + r.length = _
        omega
    rw [e0, e9, List.length_map]
    omega, by rw [join_tab]; exact q H3 (e2.trans e3)⟩⟩
theorem ev_int3 {ds : List Nat} (h : Ev te σ H (.str (tab ds))) (ne : ds ≠ []) (few : ds.length ≤ 3) (dig : ∀ d ∈ ds, d < 3) : Ev (tCB rInt3 (tCons te (tCons (tC (.int 3)) tNil))) σ H (.int (num ds : Nat)) :=
  fun H1 e Q q => h H1 e _ fun H2 e2 => ⟨ds, rfl, ne, few, dig, q H2 e2⟩
theorem ev_def1L {sp : Sp} {v : V} {xs : List V} (h : EvL te σ H xs) (hs : ∀ p H1, Ex H H1 → H1 p = some (.lst xs) → ∀ Q : VK, (∀ H2, Ex H1 H2 → Q v H2) → sp [.ref p] H1 Q E0) : Ev (tDef sp (tCons te tNil)) σ H v :=
  fun H1 e Q q => h H1 e _ fun p H2 _ e2 hp => hs p H2 (e.trans e2) hp Q fun H3 e3 => q H3 (e2.trans e3)
end
theorem tab_ascii {ds : List Nat} {n : Nat} (T : IsTab ds n) : (tab ds).cps.size = 3 ^ n ∧ (tab ds).cps.all (· < 128) = true := by
  refine ⟨by rw [tab_size, T.len], ?_⟩
  rw [← Array.all_toList, tab_cps, List.all_eq_true]
  intro c hc
  obtain ⟨d, hd, rfl⟩ := List.mem_map.mp hc
  have := T.dig d hd
  exact decide_eq_true (by omega)
theorem sign_tab {ds : List Nat} {i : Nat} (h : i < ds.length) : signAt i (tab ds) = .str ⟨#[48 + ds.getD i 0]⟩ := by
  have e : (tab ds).cps.getD i 0 = 48 + ds.getD i 0 := by
    rw [Array.getD_eq_getD_getElem?, ← Array.getElem?_toList, tab_cps, List.getElem?_map, List.getD_eq_getElem?_getD, List.getElem?_eq_getElem h]
    rfl
  unfold signAt
  rw [e]
theorem signs_given (ds : List Nat) : (ds.map fun d => (⟨#[48 + d]⟩ : Str)).map V.str = given ds.length (fun _ => true) (fun i => .str ⟨#[48 + ds.getD i 0]⟩) := by
  rw [given_iv 0 ds (fun d => V.str ⟨#[48 + d]⟩), List.map_map]
  rfl
theorem getD_lt3 {ds : List Nat} (h : ∀ d ∈ ds, d < 3) (i : Nat) : ds.getD i 0 < 3 := by
  rw [List.getD_eq_getElem?_getD]
  cases e : ds[i]? with
  | none => decide
  | some d => exact h d (List.mem_of_getElem? e)
/-! ### put_together -/
def putT (ds : List Nat) (ts : List (List Nat)) (m : Nat) : List Nat := (List.range (3 ^ m)).map fun j => ds.getD (num (ts.map fun t => t.getD j 0)) 0
theorem putT_ok {ds : List Nat} {n m : Nat} {ts : List (List Nat)} (T : IsTab ds n) (l1 : 1 ≤ ts.length) (hT : ∀ t ∈ ts, IsTab t m) : IsTab (putT ds ts m) m := by
  obtain ⟨t, ht⟩ := List.exists_mem_of_length_pos (l := ts) (by omega)
  have Tt := hT t ht
  refine ⟨Tt.n1, Tt.n3, by unfold putT; simp, fun d hd => ?_⟩
  obtain ⟨j, _, rfl⟩ := List.mem_map.mp hd
  exact getD_lt3 T.dig _
theorem putT_at (ds : List Nat) (ts : List (List Nat)) {m j : Nat} (h : j < 3 ^ m) : (putT ds ts m).getD j 0 = ds.getD (num (ts.map fun t => t.getD j 0)) 0 := by
  unfold putT
  rw [List.getD_eq_getElem?_getD, List.getElem?_map, List.getElem?_range h]
  rfl
def spPut : Sp := fun vs H Q _ => ∃ (ds : List Nat) (n m : Nat) (p : Addr) (ts : List (List Nat)), IsTab ds n ∧ vs = [.str (tab ds), .ref p] ∧ H p = some (.tup (ts.map fun t => V.str (tab t))) ∧ ts.length = n ∧
  (∀ t ∈ ts, IsTab t m) ∧ Gives (.str (tab (putT ds ts m))) H Q
abbrev sput_together : Stmt := top 19
abbrev Nput_together : List Str := ["table", "tables", "many", "signs"]
theorem scput_together : FnScope Nput_together ["table", "tables"] (defScope sput_together) := ⟨rfl, rfl, rfl, by decide +kernel, rfl, by decide +kernel, by decide +kernel⟩
theorem ok_put (F : Fun K "put_together" "put_together" sput_together f fd) (B : Blt mg) (B3 : Blt3 mg) (D_places : DefG P w K mg base "places" ["table"] 3 spPlaces)
    (D_are_tables : DefG P w K mg base "are_tables" ["x", "count"] 2 spAreTables) : FnG P w K mg base 4 f fd ["table", "tables"] spPut := by
  refine fnG F scput_together (fun vs H Q E h => ?_) (fun cdv A fr s H vs Q E hr gd h => ?_)
  · obtain ⟨ds, n, m, p, ts, _, rfl, _⟩ := h
    rfl
  · obtain ⟨ds, n, m, p, ts, T, rfl, hp, hl, hT, k⟩ := h
    refine ⟨_, (pss_cons (ps_set (i := 2) scput_together.nd rfl (Or.inl rfl) (pe_def D_places (hr.mono (by decide)) gd rfl (pa_cons (pv 0) pa_nil)))
  (pss_cons (ps_if (pt_not (pt_val (pe_def D_are_tables (hr.mono (by decide)) gd rfl (pa_cons (pv 1) (pa_cons (pv 2) pa_nil))))) (pss_one ps_never) pss_nil)
  (pss_one (ps_ret (show PE _ _ (tM1 (rJoin K) _ _) from pe_join pe_str (pe_lc (own := [("signs", 3)]) (g := gName 3) rfl scput_together.nd (pi_zips rfl B3.m_zip (pv 1)) (blkOk_by (own := [("signs", 3)]) (N := Nput_together) (sc := defScope sput_together) (by decide +kernel)) (fun _ _ _ _ _ => (pg_name (i := 3) scput_together.nd rfl (Or.inl rfl))) (fun _ _ _ _ _ => pts_nil) (fun _ _ _ _ _ => (pe_ix ix_str (pv 0) (pe_callTy call_int3 (by rfl) B.m_int (by decide +kernel) (pa_cons (show PE _ _ (tM1 (rJoin K) _ _) from pe_join pe_str (pv 3)) (pa_cons pe_int pa_nil))) (fun _ _ => rfl))))))))), ?_⟩
    have n1 := T.n1
    have n3 := T.n3
    obtain ⟨t, ht⟩ := List.exists_mem_of_length_pos (l := ts) (by omega)
    have Tt := hT t ht
    have P0 := putT_ok T (by omega) hT
    refine q_asg (v := .int (n : Int)) (ev_def (ea_cons (ev_var rfl) ea_nil) fun H1 _ Q q => ⟨ds, n, T, rfl, q⟩) fun H0 e0 => ?_
    refine q_pass (et_is (et_not (et_B (ev_def (v := .bl true) (ea_cons (ev_var rfl) (ea_cons (ev_var rfl) ea_nil)) fun H1 e1 Q q => ⟨p, ts, m, by rw [hl], e1 _ _ (e0 _ _ hp), by omega, by omega, hT, q⟩))) rfl) fun H2 e2 => ?_
    have hp2 := e2 _ _ (e0 _ _ hp)
    refine s_ret (v := .str (tab (putT ds ts m))) (ev_joinTab ev_c ?_ (by have := P0.small; omega)) fun H3 e3 => k H3 ((e0.trans e2).trans e3)
    have e3 : (putT ds ts m).length = 3 ^ m := P0.len
    have small := P0.small
    rw [signs_given, e3]
    refine el_zips (ys := ts.map tab) (fun i => .str ⟨#[48 + (putT ds ts m).getD i 0]⟩) (ev_var rfl) (st_of (by rw [hp2, List.map_map]; rfl)) (by rw [List.length_map]; omega) (by rw [List.length_map]; omega) (fun y hy => ?_) (by omega) (fun x => rfl) (fun i Ta H4 e4 hi hTa => ?_)
    · obtain ⟨t, ht, rfl⟩ := List.mem_map.mp hy
      exact tab_ascii (hT t ht)
    · have es : (ts.map tab).map (signAt i) = ((ts.map fun t => t.getD i 0).map fun d => (⟨#[48 + d]⟩ : Str)).map V.str := by
        rw [List.map_map, List.map_map, List.map_map]
        exact List.map_congr_left fun t ht => sign_tab (by rw [(hT t ht).len]; exact hi)
      rw [es] at hTa
      have dg : ∀ d ∈ ts.map (fun t => t.getD i 0), d < 3 := fun d hd => by
        obtain ⟨t, ht, rfl⟩ := List.mem_map.mp hd
        exact getD_lt3 (hT t ht).dig _
      have lt : (ts.map fun t => t.getD i 0).length = n := by rw [List.length_map, hl]
      obtain ⟨g1, g2⟩ := T.at lt dg
      rw [putT_at _ _ hi]
      refine ev_op (ev_var rfl) (ev_int3 (ev_joinTup ev_c (ev_var rfl) hTa (by omega)) (fun e => by rw [e] at lt; have : 0 = n := lt; omega) (by omega) dg) (rv_ixS (by rw [tab_len]; have := T.small; omega) ?_)
      rw [tab_cps]
      exact atI_nat (by rw [List.getElem?_map, g1]; rfl)
end
end Tv

namespace Tv
open PySem PySem.Spec PyProof.Rows L2 Evl
section
variable {P : Program} {w : World} {K : PySem.W.Frag} {mg : Str → Option Value} {base : Heap} {f aL : Addr} {fd : FuncData}
theorem spr_ex {H H' : Hp} {p : Addr} (e : Ex H H') (S : Spr H p) : Spr H' p := by
  obtain ⟨x, m, c, h, r⟩ := S
  exact ⟨x, m, c, e _ _ h, r⟩
section
variable {σ : L2.St} {H : Hp} {ta tb te : TE}
theorem evr_ref {p : Addr} {d : PyData} (h : Ev te σ H (.ref p)) (hd : Dp K H (.ref p) d) : EvR K te σ H d :=
  fun H1 e Q q => h H1 e _ fun H2 e2 => q p H2 e2 (dp_mono (e.trans e2) hd)
theorem ev_digit {d : Nat} (h : Ev te σ H (.str ⟨#[48 + d]⟩)) (d3 : d < 3) :
    Ev (tCB (fun xs H Q => ∃ a n, xs = [.str a] ∧ PySem.intText? a = some n ∧ a.length ≤ 640 ∧ Q (.int n) H) (tCons te tNil)) σ H (.int (d : Int)) :=
  fun H1 e Q q => h H1 e _ fun H2 e2 => ⟨⟨#[48 + d]⟩, (d : Int), rfl, int_digit d d3, (by show 1 ≤ 640; decide), q H2 e2⟩
theorem ev_lenSeq {p : Addr} {xs : List V} (h : Ev te σ H (.ref p)) (hx : H p = some (.lst xs)) :
    Ev (tCB (fun xs H Q => ∃ x n, xs = [x] ∧ LenV K x H n ∧ Q (.int (n : Nat)) H) (tCons te tNil)) σ H (.int (xs.length : Nat)) :=
  fun H1 e Q q => h H1 e _ fun H2 e2 => ⟨.ref p, xs.length, rfl, Or.inl ⟨xs, sq_of (e2 _ _ (e _ _ hx)), rfl⟩, q H2 e2⟩
theorem eu_tupleL {p : Addr} {xs : List V} (h : Ev te σ H (.ref p)) (hx : H p = some (.lst xs)) :
    EvU (tCB (fun xs H Q => ∃ p ys, xs = [.ref p] ∧ ((SqL K H p ys ∧ ∀ l, H l = none → Q (.ref l) (upd H l (.tup ys))) ∨ (SqT K H p ys ∧ Q (.ref p) H))) (tCons te tNil)) σ H xs :=
  fun H1 e Q q => h H1 e _ fun H2 e2 => ⟨p, xs, rfl, Or.inl ⟨sq_of (e2 _ _ (e _ _ hx)), fun l hl => q l _ (fresh_back e2 hl) (e2.trans (Ex.new hl)) upd_same⟩⟩
end
theorem sm_nat {n : Nat} (h : n ≤ 28) : Sm (.int (n : Int)) := ⟨by omega, by omega⟩
theorem sh_pair {d : PyData} (h : Sh d) : Fine (.list [d, d]) := fine_list (by show 2 ≤ 3; decide) fun e he => by
  rcases List.mem_cons.mp he with rfl | he
  · exact h
  · rcases List.mem_cons.mp he with rfl | he
    · exact h
    · cases he
/-! ### turned_round -/
def turnT (ds : List Nat) (n : Nat) (o : List Nat) : List Nat := (tups n).map fun r => ds.getD (num (o.map fun k => r.getD k 0)) 0
theorem turnT_ok {ds : List Nat} {n : Nat} (T : IsTab ds n) (o : List Nat) : IsTab (turnT ds n o) n := by
  refine ⟨T.n1, T.n3, by unfold turnT; rw [List.length_map, (tups_ok n T.n3).1], fun d hd => ?_⟩
  obtain ⟨r, _, rfl⟩ := List.mem_map.mp hd
  exact getD_lt3 T.dig _
theorem row_of {n j : Nat} {r : List Nat} (n3 : n ≤ 3) (h : (tups n)[j]? = some r) : num r = j ∧ r.length = n ∧ (∀ a ∈ r, a < 3) ∧ (tups n).getD j [] = r := by
  obtain ⟨lt, e⟩ := List.getElem?_eq_some_iff.mp h
  have tk := (tups_ok n n3).2 j lt
  have er : (tups n).getD j [] = r := by rw [List.getD_eq_getElem?_getD, h]; rfl
  rw [er] at tk
  exact ⟨tk.1, tk.2.1, fun a ha => of_decide_eq_true (List.all_eq_true.mp tk.2.2 a ha), er⟩
def spTurn : Sp := fun vs H Q _ => ∃ (ds : List Nat) (n : Nat) (p : Addr) (o : List Nat), IsTab ds n ∧ vs = [.str (tab ds), .ref p] ∧ Rd H p (.tup (iv o)) ∧ o ∈ ords n ∧ Gives (.str (tab (turnT ds n o))) H Q
theorem nums_given (o : List Nat) (g : Nat → Nat) : iv (o.map g) = given (iv o).length (fun _ => true) (fun i => .int ((g (o.getD i 0) : Nat) : Int)) := by
  rw [iv_len, given_iv 0 o (fun d => V.int ((g d : Nat) : Int))]
  unfold iv
  rw [List.map_map]
  rfl
abbrev sturned_round : Stmt := top 20
abbrev Nturned_round : List Str := ["table", "places_order", "many", "rows", "row", "k"]
theorem scturned_round : FnScope Nturned_round ["table", "places_order"] (defScope sturned_round) := ⟨rfl, rfl, rfl, by decide +kernel, rfl, by decide +kernel, by decide +kernel⟩
theorem ok_turned (F : Fun K "turned_round" "turned_round" sturned_round f fd) (B : Blt mg) (D_places : DefG P w K mg base "places" ["table"] 3 spPlaces) (D_must_be_order : DefG P w K mg base "must_be_order" ["x", "count"] 3 spMustOrder)
    (D_all_arguments : DefG P w K mg base "all_arguments" ["count"] 2 spAllArgs) (D_index_at : DefG P w K mg base "index_at" ["arguments"] 1 spIndexAt) : FnG P w K mg base 4 f fd ["table", "places_order"] spTurn := by
  refine fnG F scturned_round (fun vs H Q E h => ?_) (fun cdv A fr s H vs Q E hr gd h => ?_)
  · obtain ⟨ds, n, p, o, _, rfl, _⟩ := h
    rfl
  · obtain ⟨ds, n, p, o, T, rfl, hp, ho, k⟩ := h
    refine ⟨_, (pss_cons (ps_set (i := 2) scturned_round.nd rfl (Or.inl rfl) (pe_def D_places (hr.mono (by decide)) gd rfl (pa_cons (pv 0) pa_nil)))
  (pss_cons (ps_expr (pe_def D_must_be_order (hr.mono (by decide)) gd rfl (pa_cons (pv 1) (pa_cons (pv 2) pa_nil))))
  (pss_cons (ps_set (i := 3) scturned_round.nd rfl (Or.inl rfl) (pe_def D_all_arguments (hr.mono (by decide)) gd rfl (pa_cons (pv 2) pa_nil)))
  (pss_one (ps_ret (show PE _ _ (tM1 (rJoin K) _ _) from pe_join pe_str (pe_lc (own := [("row", 4)]) (g := gName 4) rfl scturned_round.nd (pi_list (pv 3)) (blkOk_by (own := [("row", 4)]) (N := Nturned_round) (sc := defScope sturned_round) (by decide +kernel)) (fun _ _ _ _ _ => (pg_name (i := 4) scturned_round.nd rfl (Or.inr rfl))) (fun _ _ _ _ _ => pts_nil) (fun _ _ _ _ _ => (pe_ix ix_str (pv 0) (pe_def D_index_at (hr.mono (by decide)) gd rfl (pa_cons (pe_lc (own := [("k", 5)]) (g := gName 5) rfl scturned_round.nd (show PI _ _ _ (iTup K _) from (pi_tup (pv 1))) (blkOk_by (own := [("k", 5)]) (by rfl)) (fun _ _ _ _ _ => (pg_name (i := 5) scturned_round.nd rfl (Or.inl rfl))) (fun _ _ _ _ _ => pts_nil) (fun _ _ _ _ _ => (pe_ix (show IxR _ (rIxT K) from ix_tup) (pv 4) (pv 5) (fun _ _ => rfl)))) pa_nil)) (fun _ _ => rfl)))))))))), ?_⟩
    have n1 := T.n1
    have n3 := T.n3
    obtain ⟨ol, olt, _⟩ := ords_ok n n3 o ho
    have small := T.small
    have tl := (tups_ok n n3).1
    refine q_asg (v := .int (n : Int)) (ev_def (ea_cons (ev_var rfl) ea_nil) fun H1 _ Q q => ⟨ds, n, T, rfl, q⟩) fun H0 e0 => ?_
    refine q_drop (ev_def (ea_cons (ev_var rfl) (ea_cons (ev_var rfl) ea_nil)) fun H1 e1 Q q => ⟨p, o, n, rfl, ex_rd e1 (ex_rd e0 hp), n3, ho, q⟩) fun H2 e2 => ?_
    refine ⟨_, rfl, n, Nat.le_succ_of_le n3, rfl, fun lr H3 xs hlr e3 hx R => ?_⟩
    have hp3 := ex_rd e3 (ex_rd e2 (ex_rd e0 hp))
    have P0 := turnT_ok T o
    refine s_ret (v := .str (tab (turnT ds n o))) (ev_joinTab ev_c ?_ (by have := P0.small; omega)) fun H4 e4 => k H4 (((e0.trans e2).trans e3).trans e4)
    have len : xs.length = (turnT ds n o).length := by rw [R.len, tl, P0.len]
    rw [signs_given, ← len]
    refine el_lcL (xs := xs) (fun _ => true) (fun i => .str ⟨#[48 + (turnT ds n o).getD i 0]⟩) (ev_var rfl) (sq_of hx) (by have := P0.small; omega) (fun x => rfl) (fun i x H4 e4 hi => et_yes) (fun i x H4 e4 hi _ => ?_)
    obtain ⟨r, hr', ra, rfl, hra⟩ := R.get hi
    obtain ⟨_, rl, rd, _⟩ := row_of n3 hr'
    have hra4 := e4 _ _ hra
    have ev : (turnT ds n o).getD i 0 = ds.getD (num (o.map fun k => r.getD k 0)) 0 := by
      unfold turnT
      rw [List.getD_eq_getElem?_getD, List.getElem?_map, hr']
      rfl
    rw [ev]
    have dg : ∀ d ∈ o.map (fun k => r.getD k 0), d < 3 := fun d hd => by
      obtain ⟨k, _, rfl⟩ := List.mem_map.mp hd
      exact getD_lt3 rd _
    obtain ⟨g1, g2⟩ := T.at (as := o.map fun k => r.getD k 0) (by rw [List.length_map, ol]) dg
    refine ev_op (ev_var rfl) (ev_def1L (xs := iv (o.map fun k => r.getD k 0)) ?_ fun pl H5 e5 hpl Q q => ⟨pl, _, rfl, .inr hpl, q⟩) (rv_ixS (by rw [tab_len]; omega) ?_)
    · rw [nums_given]
      refine el_lcT (a := p) (xs := iv o) (fun _ => true) (fun i => .int ((r.getD (o.getD i 0) 0 : Nat) : Int)) (ev_var rfl) (Or.inl (ex_rd e4 hp3)) (by rw [iv_len]; omega) (fun y => rfl) (fun i x H1 e hx => et_yes) (fun i x H5 e5 hx _ => ?_)
      obtain ⟨a, ha, rfl⟩ := iv_at hx
      have ea : o.getD i 0 = a := by rw [List.getD_eq_getElem?_getD, ha]; rfl
      rw [ea]
      have lt : a < r.length := by rw [rl]; exact olt a (List.mem_of_getElem? ha)
      refine ev_op (ev_var rfl) (ev_var rfl) (rv_ixT (st_of (e5 _ _ hra4)) (atI_nat (iv_get ?_)))
      rw [List.getD_eq_getElem?_getD, List.getElem?_eq_getElem lt]
      rfl
    · rw [tab_cps]
      exact atI_nat (by rw [List.getElem?_map, g1]; rfl)
/-! ### renamed -/
def pos (n : Nat) (o : List Nat) (k : Nat) : Nat := num (((tups n).getD k []).map fun a => o.getD a 0)
def opp (o : List Nat) : List Nat := [0, 1, 2].map fun x => o.idxOf x
theorem pos_ok : ∀ n ≤ 3, ∀ o ∈ ords 3, ∀ k < 3 ^ n, pos n o k < 3 ^ n ∧ pos n (opp o) k < 3 ^ n ∧ pos n (opp o) (pos n o k) = k ∧ pos n o (pos n (opp o) k) = k := by decide +kernel
theorem opp_ok : ∀ o ∈ ords 3, opp o ∈ ords 3 ∧ opp (opp o) = o ∧ ∀ x < 3, o.getD x 0 < 3 ∧ (opp o).getD (o.getD x 0) 0 = x ∧ o.getD ((opp o).getD x 0) 0 = x := by decide +kernel
def renT (ds : List Nat) (n : Nat) (o : List Nat) : List Nat := (List.range (3 ^ n)).map fun j => o.getD (ds.getD (pos n (opp o) j) 0) 0
theorem renT_ok {ds : List Nat} {n : Nat} {o : List Nat} (T : IsTab ds n) (ho : o ∈ ords 3) : IsTab (renT ds n o) n := by
  refine ⟨T.n1, T.n3, by unfold renT; simp, fun d hd => ?_⟩
  obtain ⟨j, _, rfl⟩ := List.mem_map.mp hd
  exact ((opp_ok o ho).2.2 _ (getD_lt3 T.dig _)).1
theorem renT_at (ds : List Nat) {n j : Nat} {o : List Nat} (h : j < 3 ^ n) : (renT ds n o).getD j 0 = o.getD (ds.getD (pos n (opp o) j) 0) 0 := by
  unfold renT
  rw [List.getD_eq_getElem?_getD, List.getElem?_map, List.getElem?_range h]
  rfl
/-- what the loop has set after i turns -/
def setV (ds : List Nat) (n : Nat) (o : List Nat) (i : Nat) : List V := (List.range (3 ^ n)).map fun j => if pos n (opp o) j < i then V.str ⟨#[48 + (renT ds n o).getD j 0]⟩ else V.str (Str.ofString "")
theorem setV_len (ds : List Nat) (n : Nat) (o : List Nat) (i : Nat) : (setV ds n o i).length = 3 ^ n := by unfold setV; simp
theorem setV_zero (ds : List Nat) (n : Nat) (o : List Nat) : setV ds n o 0 = List.replicate (3 ^ n) (V.str (Str.ofString "")) := by
  have e : ∀ j : Nat, (if pos n (opp o) j < 0 then V.str ⟨#[48 + (renT ds n o).getD j 0]⟩ else V.str (Str.ofString "")) = V.str (Str.ofString "") := fun j => if_neg (Nat.not_lt_zero _)
  unfold setV
  rw [funext e, List.map_const', List.length_range]
theorem setV_get (ds : List Nat) {n j : Nat} (o : List Nat) (i : Nat) (h : j < 3 ^ n) : (setV ds n o i)[j]? = some (if pos n (opp o) j < i then V.str ⟨#[48 + (renT ds n o).getD j 0]⟩ else V.str (Str.ofString "")) := by
  unfold setV
  rw [List.getElem?_map, List.getElem?_range h]
  rfl
theorem setV_end {ds : List Nat} {n : Nat} {o : List Nat} (T : IsTab ds n) (ho : o ∈ ords 3) : setV ds n o (3 ^ n) = ((renT ds n o).map fun d => (⟨#[48 + d]⟩ : Str)).map V.str := by
  rw [signs_given, (renT_ok T ho).len]
  unfold setV given
  rw [List.filter_eq_self.mpr fun _ _ => rfl]
  exact List.map_congr_left fun j hj => if_pos (pos_ok n T.n3 o ho j (List.mem_range.mp hj)).2.1
theorem setV_step {ds : List Nat} {n i : Nat} {o : List Nat} (T : IsTab ds n) (ho : o ∈ ords 3) (hi : i < 3 ^ n) :
    (setV ds n o i).set (pos n o i) (V.str ⟨#[48 + o.getD (ds.getD i 0) 0]⟩) = setV ds n o (i + 1) := by
  obtain ⟨p1, _, p3, _⟩ := pos_ok n T.n3 o ho i hi
  refine List.ext_getElem? fun j => ?_
  rw [List.getElem?_set]
  by_cases h2 : j < 3 ^ n
  · by_cases e : pos n o i = j
    · subst e
      rw [if_pos rfl, if_pos (by rw [setV_len]; exact h2), setV_get ds o _ h2, if_pos (by rw [p3]; omega), renT_at ds p1, p3]
    · rw [if_neg e, setV_get ds o _ h2, setV_get ds o _ h2]
      have ne : pos n (opp o) j ≠ i := fun q => e (by rw [← q]; exact (pos_ok n T.n3 o ho j h2).2.2.2)
      by_cases lt : pos n (opp o) j < i
      · rw [if_pos lt, if_pos (by omega)]
      · rw [if_neg lt, if_neg (by omega)]
  · rw [if_neg (by omega), List.getElem?_eq_none (by rw [setV_len]; omega), List.getElem?_eq_none (by rw [setV_len]; omega)]
section
variable {σ : L2.St} {H : Hp} {te to : TE}
theorem ev_joinLst {p : Addr} {ds : List Nat} (h1 : Ev to σ H (.str (Str.ofString ""))) (h2 : Ev te σ H (.ref p)) (hp : H p = some (.lst ((ds.map fun d => (⟨#[48 + d]⟩ : Str)).map V.str))) (z : ds.length ≤ 1000) :
    Ev (tM1 (rJoin K) to te) σ H (.str (tab ds)) := fun H1 e Q q => h1 H1 e _ fun H2 e2 => ⟨⟨_, rfl⟩, h2 H2 (e.trans e2) _ fun H3 e3 =>
  ⟨Str.ofString "", p, ds.map fun d => (⟨#[48 + d]⟩ : Str), rfl, rfl, Or.inl (sq_of (e3 _ _ (e2 _ _ (e _ _ hp)))), by
    have e0 : (Str.ofString "").length = 0 := rfl
    have e9 : ((ds.map fun d => (⟨#[48 + d]⟩ : Str)).map (·.length)).sum = ds.length := by
      clear h2 hp z q
      induction ds with
      | nil => rfl
      | cons d r ih =>
        rw [List.map_cons, List.map_cons, List.sum_cons, ih, List.length_cons]
        show 1 + r.length = _
        omega
    rw [e0, e9, List.length_map]
    omega, by rw [join_tab]; exact q H3 (e2.trans e3)⟩⟩
end
def spRenamed : Sp := fun vs H Q _ => ∃ (ds : List Nat) (n : Nat) (p : Addr) (o : List Nat), IsTab ds n ∧ vs = [.str (tab ds), .ref p] ∧ Rd H p (.tup (iv o)) ∧ o ∈ ords 3 ∧ Gives (.str (tab (renT ds n o))) H Q
abbrev srenamed : Stmt := top 18
abbrev Nrenamed : List Str := ["table", "order", "signs", "arguments", "sign", "x"]
theorem screnamed : FnScope Nrenamed ["table", "order"] (defScope srenamed) := ⟨rfl, rfl, rfl, by decide +kernel, rfl, by decide +kernel, by decide +kernel⟩
theorem ok_renamed (F : Fun K "renamed" "renamed" srenamed f fd) (B : Blt mg) (B3 : Blt3 mg) (D_must_be_table : DefG P w K mg base "must_be_table" ["x"] 2 spMust) (D_places : DefG P w K mg base "places" ["table"] 3 spPlaces)
    (D_must_be_order : DefG P w K mg base "must_be_order" ["x", "count"] 3 spMustOrder) (D_all_arguments : DefG P w K mg base "all_arguments" ["count"] 2 spAllArgs) (D_index_at : DefG P w K mg base "index_at" ["arguments"] 1 spIndexAt) :
    FnG P w K mg base 4 f fd ["table", "order"] spRenamed := by
  refine fnG F screnamed (fun vs H Q E h => ?_) (fun cdv A fr s H vs Q E hr gd h => ?_)
  · obtain ⟨ds, n, p, o, _, rfl, _⟩ := h
    rfl
  · obtain ⟨ds, n, p, o, T, rfl, hp, ho, k⟩ := h
    refine ⟨_, (pss_cons (ps_expr (pe_def D_must_be_table (hr.mono (by decide)) gd rfl (pa_cons (pv 0) pa_nil)))
  (pss_cons (ps_expr (pe_def D_must_be_order (hr.mono (by decide)) gd rfl (pa_cons (pv 1) (pa_cons pe_int pa_nil))))
  (pss_cons (ps_set (i := 2) screnamed.nd rfl (Or.inl rfl) (pe_op op_rep (pe_lst (pa_cons pe_str pa_nil)) (pe_callB call_len (by rfl) B.m_len (by decide +kernel) (pa_cons (pv 0) pa_nil))))
  (pss_cons (ps_for PassesOwn.never rfl (pi_zipLS rfl B3.m_zip (pa_cons (pe_def D_all_arguments (hr.mono (by decide)) gd rfl (pa_cons (pe_def D_places (hr.mono (by decide)) gd rfl (pa_cons (pv 0) pa_nil)) pa_nil)) (pa_cons (pv 0) pa_nil))) (pg_tup rfl (pgs_cons (pg_name (i := 3) screnamed.nd rfl (Or.inl rfl)) (pgs_cons (pg_name (i := 4) screnamed.nd rfl (Or.inl rfl)) pgs_nil))) (pss_one (ps_asg (pe_callTy call_str_int (by rfl) B.m_str (by decide +kernel) (pa_cons (pe_ix ix_tup (pv 1) (pe_callTy call_int_str (by rfl) B.m_int (by decide +kernel) (pa_cons (pv 4) pa_nil)) (fun _ _ => rfl)) pa_nil)) (pg_sub (pv 2) (pe_def D_index_at (hr.mono (by decide)) gd rfl (pa_cons (pe_lc (own := [("x", 5)]) (g := gName 5) rfl screnamed.nd (pi_tup (pv 3)) (blkOk_by (own := [("x", 5)]) (N := Nrenamed) (sc := defScope srenamed) (by decide +kernel)) (fun _ _ _ _ _ => (pg_name (i := 5) screnamed.nd rfl (Or.inl rfl))) (fun _ _ _ _ _ => pts_nil) (fun _ _ _ _ _ => (pe_ix (show IxR _ (rIxT K) from ix_tup) (pv 1) (pv 5) (fun _ _ => rfl)))) pa_nil)) set_list))))
  (pss_one (ps_ret (show PE _ _ (tM1 (rJoin K) _ _) from pe_join pe_str (pv 2)))))))), ?_⟩
    have n1 := T.n1
    have n3 := T.n3
    obtain ⟨ol, olt, _⟩ := ords_ok 3 (by decide) o ho
    have small := T.small
    have tl := (tups_ok n n3).1
    refine q_drop (ev_def (ea_cons (ev_var rfl) ea_nil) fun H1 _ Q q => ⟨ds, n, T, rfl, q⟩) fun H0 e0 => ?_
    refine q_drop (ev_def (ea_cons (ev_var rfl) (ea_cons ev_c ea_nil)) fun H1 e1 Q q => ⟨p, o, 3, rfl, ex_rd e1 (ex_rd e0 hp), by decide, ho, q⟩) fun H2 e2 => ?_
    refine q_asgL (xs := setV ds n o 0) (fun H1 e1 Q q => ⟨by show 1 ≤ sizeLine; decide, fun pl hpl => ?_⟩) fun ls H3 hls e3 h3 => ?_
    · refine ⟨_, rfl, .str (tab ds), (tab ds).length, rfl, ⟨T.size, rfl⟩, pl, ((tab ds).length : Int), [.str (Str.ofString "")], rfl, rfl, upd_same, by omega, by rw [tab_len]; omega, ?_, fun r hr => ?_⟩
      · show 1 * _ ≤ sizeLine
        rw [Int.toNat_natCast, Nat.one_mul]
        exact T.size
      · refine q r _ (fresh_back (Ex.new hpl) hr) ((Ex.new hpl).trans (Ex.new hr)) ?_
        rw [upd_same, setV_zero, Int.toNat_natCast, tab_len, T.len]
        congr 2
        simp
    refine ⟨_, rfl, ds, n, T, rfl, fun H4 e4 => ⟨n, Nat.le_succ_of_le n3, rfl, fun lr H5 xs hlr e5 hx R => ?_⟩⟩
    have nls : lr ≠ ls := fun z => by rw [z, e4 _ _ h3] at hlr; cases hlr
    have hp5 := ex_rd e5 (ex_rd e4 (ex_rd e3 (ex_rd e2 (ex_rd e0 hp))))
    have h5 := e5 _ _ (e4 _ _ h3)
    have npl : p ≠ ls := fun z => by
      rw [z] at hp5
      rcases hp5 with q | ⟨_, q⟩ <;> rw [h5] at q <;> cases q
    have xl : xs.length = 3 ^ n := by rw [R.len, tl]
    refine ⟨_, rfl, lr, xs, tab ds, rfl, SqL.of hx, (tab_ascii T).2, for_zipLS (K := K) (a := lr) (xs := xs) (y := tab ds) (by rw [xl, (tab_ascii T).1])
      (fun i σ H6 => ∃ v3 v4 : Option V, σ = [some (.str (tab ds)), some (.ref p), some (.ref ls), v3, v4, none] ∧ But ls H5 H6 ∧ H6 ls = some (.lst (setV ds n o i))) ⟨none, none, rfl, fun _ _ _ h => h, h5⟩
      (fun i σ H6 ⟨_, _, _, bt, _⟩ => SqL.of (bt _ _ nls hx)) ?_ ?_⟩
    · rintro i x Tp σ H6 hi ⟨v3, v4, rfl, bt, h6⟩ hT
      obtain ⟨as, ha, ra, rfl, hra⟩ := R.get hi
      obtain ⟨_, al, ad, er⟩ := row_of n3 ha
      have il : i < 3 ^ n := by rw [← xl]; exact (List.getElem?_eq_some_iff.mp hi).1
      rw [sign_tab (by rw [T.len]; exact il)]
      refine ⟨Tp, [.ref ra, .str ⟨#[48 + ds.getD i 0]⟩], rfl, st_of upd_same, rfl, _, _, rfl, _, _, rfl, rfl, ?_⟩
      have eT := Ex.new (o := .tup [.ref ra, .str ⟨#[48 + ds.getD i 0]⟩]) hT
      have nra : ra ≠ ls := fun z => by rw [z, h5] at hra; cases hra
      have hra7 := eT _ _ (bt _ _ nra hra)
      have hp7 := ex_rd eT (rd_but bt npl hp5)
      refine s_setL (l := ls) (xs := setV ds n o i) (j := pos n o i) (v := .str ⟨#[48 + o.getD (ds.getD i 0) 0]⟩) (eT _ _ h6) ?_ (ev_var rfl) (ev_def1L (xs := iv (as.map fun a => o.getD a 0)) ?_ fun pl H9 e9 hpl Q q => ⟨pl, _, rfl, .inr hpl, ?_⟩)
        (by rw [setV_len]; exact (pos_ok n n3 o ho i il).1) fun H8 e8 => ⟨_, _, rfl, fun b u nb hb => ?_, ?_⟩
      · have d3 := getD_lt3 T.dig i
        have lt : ds.getD i 0 < o.length := by omega
        refine ev_strInt (ev_op (ev_var rfl) (ev_digit (ev_var rfl) d3) (rv_ixT (Or.inl hp7) (atI_nat (iv_get ?_)))) (getD_lt3 olt _)
        rw [List.getD_eq_getElem?_getD (l := o), List.getElem?_eq_getElem lt]
        rfl
      · rw [nums_given]
        refine el_lcT (a := ra) (xs := iv as) (fun _ => true) (fun i => .int ((o.getD (as.getD i 0) 0 : Nat) : Int)) (ev_var rfl) (st_of hra7) (by rw [iv_len]; omega) (fun y => rfl) (fun i x H1 e hx => et_yes) (fun i x H9 e9 hx _ => ?_)
        obtain ⟨a, ha', rfl⟩ := iv_at hx
        have ea : as.getD i 0 = a := by rw [List.getD_eq_getElem?_getD, ha']; rfl
        rw [ea]
        have lt : a < o.length := by rw [ol]; exact ad a (List.mem_of_getElem? ha')
        refine ev_op (ev_var rfl) (ev_var rfl) (rv_ixT (Or.inl (ex_rd e9 hp7)) (atI_nat (iv_get ?_)))
        rw [List.getD_eq_getElem?_getD, List.getElem?_eq_getElem lt]
        rfl
      · have : num (as.map fun a => o.getD a 0) = pos n o i := by unfold pos; rw [er]
        rw [this]
        exact q
      · rw [upd_ne nb]
        exact e8 _ _ (eT _ _ (bt b u nb hb))
      · rw [upd_same, setV_step T ho il]
    · rintro σ H6 ⟨v3, v4, rfl, bt, h6⟩
      rw [xl, setV_end T ho] at h6
      refine s_ret (v := .str (tab (renT ds n o))) (ev_joinLst ev_c (ev_var rfl) h6 (by have := (renT_ok T ho).small; omega)) fun H7 e7 => k H7 fun b u hb => ?_
      have hb2 := e2 _ _ (e0 _ _ hb)
      exact e7 _ _ (bt b u (ne_of_none hb2 hls) (e5 _ _ (e4 _ _ (e3 _ _ hb2))))
end
end Tv

namespace Tv
open PySem PySem.Spec PyProof.Rows L2 Evl
section
variable {P : Program} {w : World} {K : PySem.W.Frag} {mg : Str → Option Value} {base : Heap} {f aL : Addr} {fd : FuncData}
section
variable {σ : L2.St} {H : Hp} {ta tb te : TE}
theorem ev_def2L {sp : Sp} {v z : V} {xs : List V} (h1 : Ev ta σ H z) (h2 : EvL tb σ H xs)
    (hs : ∀ p H1, Ex H H1 → H1 p = some (.lst xs) → ∀ Q : VK, (∀ H2, Ex H1 H2 → Q v H2) → sp [z, .ref p] H1 Q E0) : Ev (tDef sp (tCons ta (tCons tb tNil))) σ H v :=
  fun H1 e Q q => h1 H1 e _ fun H2 e2 => h2 H2 (e.trans e2) _ fun p H3 _ e3 hp => hs p H3 ((e.trans e2).trans e3) hp Q fun H4 e4 => q H4 ((e2.trans e3).trans e4)
theorem ev_glue {x y : Str} (ha : Ev ta σ H (.str x)) (hb : Ev tb σ H (.str y)) (z : x.length + y.length ≤ 1000) :
    Ev (tOp (fun x y H Q => ∃ i j, x = .str i ∧ y = .str j ∧ i.length + j.length ≤ sizeLine ∧ Q (.str (i ++ j)) H) ta tb) σ H (.str (x ++ y)) := fun H1 e Q q =>
  ha H1 e _ fun H2 e2 => hb H2 (e.trans e2) _ fun H3 e3 => ⟨x, y, rfl, rfl, Nat.le_trans z (by decide), q H3 (e2.trans e3)⟩
end
theorem digit_at {ds : List Nat} {i : Nat} (h : i < ds.length) : ds[i]? = some (ds.getD i 0) := by
  rw [List.getD_eq_getElem?_getD, List.getElem?_eq_getElem h]
  rfl
theorem tab_snoc (ds : List Nat) (d : Nat) : tab ds ++ ⟨#[48 + d]⟩ = tab (ds ++ [d]) := by
  show (⟨(tab ds).cps ++ #[48 + d]⟩ : Str) = _
  unfold tab
  congr 1
  simp
theorem str_at_tabs {ts : List (List Nat)} {i : Nat} {x : V} (h : (ts.map fun t => V.str (tab t))[i]? = some x) : ∃ t, ts[i]? = some t ∧ x = .str (tab t) := by
  rw [List.getElem?_map] at h
  cases e : ts[i]? with
  | none => rw [e] at h; cases h
  | some t => rw [e] at h; exact ⟨t, rfl, (Option.some.inj h).symm⟩
abbrev slaw_put : Stmt := top 29
abbrev Nlaw_put : List Str := ["sheet_now", "some", "found", "each", "other_sheet"]
theorem sclaw_put : FnScope Nlaw_put ["sheet_now", "some"] (defScope slaw_put) := ⟨rfl, rfl, rfl, by decide +kernel, rfl, by decide +kernel, by decide +kernel⟩
theorem ok_lput (F : Fun K "_law_put" "_law_put" slaw_put f fd) (B : Blt mg) (D__law_tuples : DefG P w K mg base "_law_tuples" ["size"] 1 spAllArgs) (D__law_places : DefG P w K mg base "_law_places" ["sheet_now"] 1 spPlaces)
    (D__law_at : DefG P w K mg base "_law_at" ["sheet_now", "some"] 1 spValue) : FnG P w K mg base 2 f fd ["sheet_now", "some"] spPut := by
  refine fnG F sclaw_put (fun vs H Q E h => ?_) (fun cdv A fr s H vs Q E hr gd h => ?_)
  · obtain ⟨ds, n, m, p, ts, _, rfl, _⟩ := h
    rfl
  · obtain ⟨ds, n, m, p, ts, T, rfl, hp, hl, hT, k⟩ := h
    refine ⟨_, (pss_cons (ps_set (i := 2) sclaw_put.nd rfl (Or.inl rfl) pe_str)
  (pss_cons (ps_for PassesOwn.never rfl (pi_list (pe_def D__law_tuples (hr.mono (by decide)) gd rfl (pa_cons (pe_def D__law_places (hr.mono (by decide)) gd rfl (pa_cons (pe_ix ix_tup (pv 1) pe_int (fun _ _ => rfl)) pa_nil)) pa_nil))) (pg_name (i := 3) sclaw_put.nd rfl (Or.inr rfl)) (pss_one (ps_set (i := 2) sclaw_put.nd rfl (Or.inl rfl) (pe_op op_add_str (pv 2) (pe_callTy call_str_int (by rfl) B.m_str (by decide +kernel) (pa_cons (pe_def D__law_at (hr.mono (by decide)) gd rfl (pa_cons (pv 0) (pa_cons (pe_lc (own := [("other_sheet", 4)]) (g := gName 4) rfl sclaw_put.nd (pi_tup (pv 1)) (blkOk_by (own := [("other_sheet", 4)]) (N := Nlaw_put) (sc := defScope slaw_put) (by decide +kernel)) (fun _ _ _ _ _ => (pg_name (i := 4) sclaw_put.nd rfl (Or.inl rfl))) (fun _ _ _ _ _ => pts_nil) (fun _ _ _ _ _ => (pe_def D__law_at (hr.mono (by decide)) gd rfl (pa_cons (pv 4) (pa_cons (pv 3) pa_nil))))) pa_nil))) pa_nil))))))
  (pss_one (ps_ret (pv 2))))), ?_⟩
    have n1 := T.n1
    have n3 := T.n3
    obtain ⟨t0, h0⟩ : ∃ t0, ts[0]? = some t0 := ⟨_, List.getElem?_eq_getElem (by omega : 0 < ts.length)⟩
    have T0 := hT t0 (List.mem_of_getElem? h0)
    have P0 := putT_ok T (by omega) hT
    have small := P0.small
    have tl := (tups_ok m T0.n3).1
    refine q_asg (v := .str (Str.ofString "")) ev_c fun H0 e0 => ?_
    have hp0 := e0 _ _ hp
    refine ⟨_, rfl, p, _, 0, .str (tab t0), rfl, rfl, SqT.of hp0, atI_nat (j := 0) (by rw [List.getElem?_map, h0]; rfl), t0, m, T0, rfl, fun H1 e1 => ⟨m, Nat.le_succ_of_le T0.n3, rfl, fun lr H2 xs hlr e2 hx R => ?_⟩⟩
    have hp2 := e2 _ _ (e1 _ _ hp0)
    refine ⟨lr, rfl, ⟨xs, SqL.of hx⟩, for_list (K := K) (a := lr) (xs := xs)
      (fun j σ H6 => ∃ v3 : Option V, σ = [some (.str (tab ds)), some (.ref p), some (.str (tab ((putT ds ts m).take j))), v3, none] ∧ Ex H2 H6) ⟨none, by rw [List.take_zero]; rfl, Ex.refl _⟩
      (fun j σ H6 _ ⟨_, _, e6⟩ => SqL.of (e6 _ _ hx)) ?_ ?_⟩
    · rintro j x σ H6 hj ⟨v3, rfl, e6⟩
      obtain ⟨as, ha, ra, rfl, hra⟩ := R.get hj
      obtain ⟨na, al, ad, er⟩ := row_of T0.n3 ha
      have jl : j < 3 ^ m := by rw [← tl]; exact (List.getElem?_eq_some_iff.mp ha).1
      have hra6 := e6 _ _ hra
      have hp6 := e6 _ _ hp2
      have dg : ∀ d ∈ ts.map (fun t => t.getD j 0), d < 3 := fun d hd => by
        obtain ⟨t, ht, rfl⟩ := List.mem_map.mp hd
        exact getD_lt3 (hT t ht).dig _
      have lt : (ts.map fun t => t.getD j 0).length = n := by rw [List.length_map, hl]
      have ev : val ds (ts.map fun t => t.getD j 0) = (putT ds ts m).getD j 0 := (putT_at ds ts jl).symm
      have d3 : (putT ds ts m).getD j 0 < 3 := getD_lt3 P0.dig _
      refine s_asg (v := .str (tab ((putT ds ts m).take (j + 1)))) ?_ fun H7 e7 => ⟨_, rfl, e6.trans e7⟩
      have et : (putT ds ts m).take (j + 1) = (putT ds ts m).take j ++ [(putT ds ts m).getD j 0] := by
        rw [List.take_succ, digit_at (by rw [P0.len]; exact jl)]
        rfl
      rw [et, ← tab_snoc]
      refine ev_glue (ev_var rfl) (ev_strInt (ev_is (ev_def2L (xs := iv (ts.map fun t => t.getD j 0)) (v := .int (val ds (ts.map fun t => t.getD j 0) : Nat)) (ev_var rfl) ?_ fun pl H7 e7 hpl Q q => ⟨ds, n, pl, _, T, rfl, .inr hpl, lt, dg, q⟩) (by rw [ev])) d3) ?_
      · have eg : iv (ts.map fun t => t.getD j 0) = given (ts.map fun t => V.str (tab t)).length (fun _ => true) (fun i => .int (((ts.getD i []).getD j 0 : Nat) : Int)) := by
          rw [List.length_map, given_iv [] ts (fun t => V.int ((t.getD j 0 : Nat) : Int))]
          unfold iv
          rw [List.map_map]
          rfl
        rw [eg]
        refine el_lcT (a := p) (xs := ts.map fun t => V.str (tab t)) (fun _ => true) (fun i => .int (((ts.getD i []).getD j 0 : Nat) : Int)) (ev_var rfl) (st_of hp6) (by rw [List.length_map]; omega) (fun y => rfl) (fun i x H1 e hx => et_yes) (fun i x H7 e7 hx _ => ?_)
        obtain ⟨t, ht, rfl⟩ := str_at_tabs hx
        have eti : ts.getD i [] = t := by rw [List.getD_eq_getElem?_getD, ht]; rfl
        rw [eti]
        refine ev_is (ev_def (v := .int (val t as : Nat)) (ea_cons (ev_var rfl) (ea_cons (ev_var rfl) ea_nil)) fun H8 e8 Q q => ⟨t, m, ra, as, hT t (List.mem_of_getElem? ht), rfl, .inl (e8 _ _ (e7 _ _ hra6)), al, ad, q⟩) ?_
        unfold val
        rw [na]
      · rw [tab_len, List.length_take]
        show _ + 1 ≤ 1000
        omega
    · rintro σ H6 ⟨v3, rfl, e6⟩
      rw [R.len, tl, ← P0.len, List.take_length]
      exact ⟨_, rfl, k H6 (((e0.trans e1).trans e2).trans e6)⟩
/-! ### orders drawn -/
theorem perm_ords : ∀ n ≤ 3, 1 ≤ n → ∀ l : List Nat, l.Perm (List.range n) → l ∈ ords n := by
  intro n n3 n1 l h
  have hl : l.length = n := by rw [h.length_eq, List.length_range]
  have lt : ∀ a ∈ l, a < n := fun a ha => List.mem_range.mp (h.mem_iff.mp ha)
  have nd : l.Nodup := h.nodup_iff.mpr List.nodup_range
  have : n = 1 ∨ n = 2 ∨ n = 3 := by omega
  rcases this with rfl | rfl | rfl
  · match l, hl, lt with
    | [a], _, lt =>
      have : a = 0 := by have := lt a (by simp); omega
      subst this
      decide
  · match l, hl, lt, nd with
    | [a, b], _, lt, nd =>
      have ha := lt a (by simp)
      have hb := lt b (by simp)
      have : a = 0 ∨ a = 1 := by omega
      have : b = 0 ∨ b = 1 := by omega
      rcases ‹a = 0 ∨ a = 1› with rfl | rfl <;> rcases ‹b = 0 ∨ b = 1› with rfl | rfl <;> revert nd <;> decide
  · match l, hl, lt, nd with
    | [a, b, c], _, lt, nd =>
      have ha : a = 0 ∨ a = 1 ∨ a = 2 := by have := lt a (by simp); omega
      have hb : b = 0 ∨ b = 1 ∨ b = 2 := by have := lt b (by simp); omega
      have hc : c = 0 ∨ c = 1 ∨ c = 2 := by have := lt c (by simp); omega
      rcases ha with rfl | rfl | rfl <;> rcases hb with rfl | rfl | rfl <;> rcases hc with rfl | rfl | rfl <;> revert nd <;> decide
/-- a tuple all of whose object is known -/
def Frz (H : Hp) (q : Addr) (xs : List V) : Prop := ∃ o : Obj, o.dict = none ∧ H q = some (.frz o (.tup xs))
def rTupF (K : PySem.W.Frag) : List V → Hp → VK → Prop := fun xs H Q => ∃ (p : Addr) (ys : List V), xs = [.ref p] ∧ SqL K H p ys ∧ ∀ (l : Addr) (o : Obj), o.dict = none → H l = none → Q (.ref l) (upd H l (.frz o (.tup ys)))
theorem call_tupF {X : Cx} : CallR X (.type "tuple") (rTupF X.K) := by
  intro pins s σ H xs us Q I r h
  obtain ⟨p, ys, rfl, hq, q⟩ := h
  obtain ⟨u, rfl, rx⟩ := vals1 r
  cases rx
  obtain ⟨its, vals, pl, hz⟩ := I.list hq
  have many := vals.length
  refine call_tuple_list pl.isList (fun h1 keep => ?_) (by rw [List.size_toArray]; omega)
  have I1 : Inv X pins σ H { s with heap := h1 } := I.kept (t' := s.toks) keep
  have I2 := I1.laid (t' := s.toks) (a := h1.objs.size) (o := .frz { cls := .type "tuple", data := .seq its.toArray } (.tup ys)) (h' := h1.push { cls := .type "tuple", data := .seq its.toArray })
    (fun b o e => Heap.get?_push_of_some _ e) (Nat.le_refl _) ⟨Heap.get?_push_size _ rfl, hz, its, vals, IsTup.new _ _⟩
  exact ⟨.ref h1.objs.size, _, I2, rfl, q _ _ rfl (I1.hok.fresh (Nat.le_refl _))⟩
abbrev slaw_order : Stmt := top 30
abbrev Nlaw_order : List Str := ["spring", "size", "rest", "found", "k"]
theorem sclaw_order : FnScope Nlaw_order ["spring", "size"] (defScope slaw_order) := ⟨rfl, rfl, rfl, by decide +kernel, rfl, by decide +kernel, by decide +kernel⟩
def spOrder : Sp := fun vs H Q _ => ∃ (p : Addr) (n : Nat), vs = [.ref p, .int (n : Int)] ∧ Spr H p ∧ 1 ≤ n ∧ n ≤ 3 ∧
  ∀ (o : List Nat) (q : Addr) (H' : Hp), o ∈ ords n → H q = none → But p H H' → Spr H' p → Frz H' q (iv o) → Q (.ref q) H'
theorem erase_perm : ∀ {l : List Nat} {d y : Nat}, l[d]? = some y → (y :: l.eraseIdx d).Perm l
  | [], d, y, h => by simp at h
  | a :: r, 0, y, h => by
    obtain rfl : a = y := Option.some.inj h
    exact List.Perm.refl _
  | a :: r, d + 1, y, h => (List.Perm.swap a y _).trans ((erase_perm (l := r) (d := d) h).cons a)
theorem iv_erase : ∀ (l : List Nat) (d : Nat), (iv l).eraseIdx d = iv (l.eraseIdx d)
  | [], d => rfl
  | a :: r, 0 => rfl
  | a :: r, d + 1 => congrArg (V.int (a : Int) :: ·) (iv_erase r d)
theorem ok_lorder (F : Fun K "_law_order" "_law_order" slaw_order f fd) (B : Blt mg) (B3 : Blt3 mg) (D__law_draw : DefG P w K mg base "_law_draw" ["spring", "size"] 1 spDraw) :
    FnG P w K mg base 2 f fd ["spring", "size"] spOrder := by
  refine fnG F sclaw_order (fun vs H Q E h => ?_) (fun cdv A fr s H vs Q E hr gd h => ?_)
  · obtain ⟨p, n, rfl, _⟩ := h
    rfl
  · obtain ⟨p, n, rfl, S, n1, n3, k⟩ := h
    refine ⟨_, (pss_cons (ps_par (i := 2) (j := 3) (by rfl) sclaw_order.nd rfl rfl (by decide) rfl rfl (pa_cons (pe_listRg rfl rfl B3.m_list (prg_1 rfl B.m_range (pv 1))) (pa_cons (pe_lst pa_nil) pa_nil)) (by rfl))
  (pss_cons (ps_for PassesOwn.never rfl (pi_range1 rfl B.m_range (pa_cons (pv 1) pa_nil)) (pg_name (i := 4) sclaw_order.nd rfl (Or.inl rfl)) (pss_one (ps_expr (pe_bm PySem.F.plainAttrs_list PySem.F.slot_list_append PySem.F.type_list_append mt_append (pv 3) (pa_cons (pe_bm PySem.F.plainAttrs_list PySem.F.slot_list_pop PySem.F.type_list_pop mt_popAt (pv 2) (pa_cons (pe_def D__law_draw (hr.mono (by decide)) gd rfl (pa_cons (pv 0) (pa_cons (pe_callB call_len (by rfl) B.m_len (by decide +kernel) (pa_cons (pv 2) pa_nil)) pa_nil))) pa_nil)) pa_nil)))))
  (pss_one (ps_ret (pe_callTy call_tupF (by rfl) B.m_tuple (by decide +kernel) (pa_cons (pv 3) pa_nil)))))), ?_⟩
    refine ⟨_, rfl, (n : Int), rfl, RgOk.of_le (by omega) (by omega) (by omega) (by omega), fun lr hlr => ⟨by show 0 ≤ sizeLine; decide, fun lf hlf => ?_⟩⟩
    have er : rgV 0 (n : Int) = iv (List.range n) := by
      unfold rgV iv
      rw [Int.sub_zero, Int.toNat_natCast]
      exact List.map_congr_left fun i _ => by rw [Int.zero_add]
    rw [er] at hlf ⊢
    have nrf : lr ≠ lf := ne_of_none upd_same hlf
    have e1 := (Ex.new (o := .lst (iv (List.range n))) hlr).trans (Ex.new (o := .lst []) hlf)
    have lfn : H lf = none := fresh_back (Ex.new hlr) hlf
    have plr : p ≠ lr := by
      obtain ⟨_, _, _, hp, _⟩ := S
      exact ne_of_none hp hlr
    have plf : p ≠ lf := by
      obtain ⟨_, _, _, hp, _⟩ := S
      exact ne_of_none hp lfn
    refine ⟨_, _, rfl, ?_⟩
    refine ⟨_, rfl, (n : Int), rfl, by omega, by omega, for_range (lo := 0) (n := n)
      (fun i σ H2 => ∃ (v4 : Option V) (fo re : List Nat), σ = [some (.ref p), some (.int (n : Int)), some (.ref lr), some (.ref lf), v4] ∧ Spr H2 p ∧ (∀ b o, b ≠ p → b ≠ lr → b ≠ lf → H b = some o → H2 b = some o) ∧
        H2 lr = some (.lst (iv re)) ∧ H2 lf = some (.lst (iv fo)) ∧ fo.length = i ∧ (fo ++ re).Perm (List.range n)) ?_ ?_ ?_⟩
    · refine ⟨none, [], List.range n, rfl, spr_ex e1 S, fun b o _ _ _ h => e1 _ _ h, by rw [upd_ne nrf]; exact upd_same, upd_same, rfl, List.Perm.refl _⟩
    · rintro i σ H2 hi ⟨v4, fo, re, rfl, S2, kp, hr2, hf2, fl, pm⟩
      have tot : fo.length + re.length = n := by have := pm.length_eq; rw [List.length_append, List.length_range] at this; exact this
      have rl : (iv re).length = n - i := by rw [iv_len]; omega
      refine ⟨_, rfl, Or.inl ⟨rfl, _, SqL.of hf2⟩, _, rfl, Or.inl ⟨rfl, _, SqL.of hr2⟩, _, rfl, _, rfl, .ref lr, (iv re).length, rfl, Or.inl ⟨_, SqL.of hr2, rfl⟩, ?_⟩
      refine ⟨p, _, rfl, S2, by omega, by omega, fun d H3 d0 d1 S3 b3 => ?_⟩
      have dl : d.toNat < re.length := by rw [iv_len] at d1; omega
      have at_d := List.getElem?_eq_getElem dl
      refine ⟨lr, iv re, d, d.toNat, .int (re[d.toNat] : Nat), rfl, rfl, b3 _ _ plr.symm hr2, by omega, by omega, ?_, iv_get at_d, ?_⟩
      · unfold seqIndex?
        simp
        omega
      · rw [iv_erase]
        refine ⟨lf, iv fo, _, rfl, rfl, by rw [upd_ne nrf.symm]; exact b3 _ _ plf.symm hf2, ?_, ?_⟩
        · rw [iv_len]
          exact Nat.lt_of_le_of_lt (by omega : _ ≤ 3) (by decide)
        · refine ⟨_, fo ++ [re[d.toNat]], re.eraseIdx d.toNat, rfl, ?_, fun b o np nr nf h => ?_, ?_, ?_, by rw [List.length_append, fl]; rfl, ?_⟩
          · obtain ⟨x, m, c, hp3, r⟩ := S3
            exact ⟨x, m, c, by rw [upd_ne plf, upd_ne plr]; exact hp3, r⟩
          · rw [upd_ne nf, upd_ne nr]
            exact b3 _ _ np (kp b o np nr nf h)
          · rw [upd_ne nrf]
            exact upd_same
          · rw [upd_same]
            unfold iv
            rw [List.map_append]
            rfl
          · rw [List.append_assoc]
            exact ((erase_perm at_d).append_left fo).trans pm
    · rintro σ H2 ⟨v4, fo, re, rfl, S2, kp, hr2, hf2, fl, pm⟩
      have re0 : re = [] := by
        have := pm.length_eq
        rw [List.length_append, List.length_range] at this
        exact List.eq_nil_of_length_eq_zero (by omega)
      subst re0
      rw [List.append_nil] at pm
      have fr : ∀ {q : Addr}, H2 q = none → q ≠ p ∧ H q = none := fun {q} hq => by
        have np : q ≠ p := fun z => by
          obtain ⟨_, _, _, hp2, _⟩ := S2
          rw [z, hp2] at hq
          cases hq
        refine ⟨np, ?_⟩
        cases hH : H q with
        | none => rfl
        | some o =>
          have := kp q o np (ne_of_none hH hlr) (fun z => by rw [z] at hH; rw [hH] at lfn; cases lfn) hH
          rw [this] at hq
          cases hq
      refine ⟨_, rfl, lf, iv fo, rfl, SqL.of hf2, fun q ob nod hq => k fo q _ (perm_ords n n3 n1 fo pm) (fr hq).2 (fun b o np h => ?_) (spr_ex (Ex.new hq) S2) ⟨ob, nod, upd_same⟩⟩
      exact Ex.new hq _ _ (kp b o np (ne_of_none h hlr) (fun z => by rw [z] at h; rw [h] at lfn; cases lfn) h)
end
end Tv

namespace Tv
open PySem PySem.Spec PyProof.Rows L2 Evl
section
variable {P : Program} {w : World} {K : PySem.W.Frag} {mg : Str → Option Value} {base : Heap} {f aL : Addr} {fd : FuncData}
/-! ### t.index(x), t a tuple that was made here -/
def tTI (K : PySem.W.Frag) (to : TE) (t : TA) : TE := fun σ H Q => to σ H fun x H1 => (∃ p xs, x = .ref p ∧ Frz H1 p xs) ∧ t σ H1 fun xs H2 => rIndexT K x xs H2 Q
theorem pe_tupIndex {X : Cx} {o e : Expr} {to : TE} {t : TA} {apos cpos : Pos} (ho : PE X o to) (ha : PA X [e] t)
    (hbase : attributeBase o "index" X.env (eval o X.env) = eval o X.env := by rfl)
    (few : ((backTo cpos (starEach [e] X.env)).all (fun x => !x.1) && (backToKw cpos (keywordEach [] X.env)).all (fun x => x.1.isSome)
      && decide ([e].length + ([] : List Keyword).length + (if ([] : List Keyword).isEmpty then 0 else 1) < 30)) = true := by rfl)
    (line_ : (apos.endLine == cpos.line) = true := by rfl) (one : starEach [e] X.env = (false, eval e X.env) :: starEach [] X.env := by rfl) (plain : (backTo cpos (starEach [] X.env)).any (·.1) = false := by rfl) :
    PE X (.Call (.Attribute o "index" apos) [e] [] cpos) (tTI X.K to t) := by
  refine ⟨fun pins s σ H Q I h => ?_⟩
  refine wpAny_Call_method_late hbase few line_ rfl (thn (ho.run pins s σ H _ I h) fun v s1 ⟨x, H1, I1, r1, ⟨p, xs, ex, ob, nod, hf⟩, q1⟩ => ?_)
  subst ex
  cases r1
  obtain ⟨at_p, _, its, _, ⟨o2, at_2, cls_2, _⟩⟩ := I1.hok p _ hf
  have same : ob = o2 := Option.some.inj (at_p.symm.trans at_2)
  refine ⟨"tuple", "tuple.index", PySem.F.plainAttrs_tuple, PySem.F.slot_tuple_index, PySem.F.type_tuple_index, ⟨ob, at_p, by rw [same]; exact cls_2⟩, fun a e' => by cases e'; exact ⟨ob, at_p, nod⟩, ?_⟩
  have hA := ha.run cpos pins s1 σ H1 _ I1 q1
  rw [one] at hA ⊢
  refine Calls.callWith_builtin (by show (false || (backTo cpos (starEach [] X.env)).any (·.1)) = false; rw [plain] <;> rfl) (Calls.evalArgs_plain ?_)
  exact thn hA fun us s2 ⟨vs, H2, I2, r2, q2⟩ => mt_indexT pins s2 σ H2 (.ref p) vs (.ref p) us Q I2 rfl r2 q2
abbrev slaw_back : Stmt := top 31
abbrev Nlaw_back : List Str := ["order_now", "k"]
theorem sclaw_back : FnScope Nlaw_back ["order_now"] (defScope slaw_back) := ⟨rfl, rfl, rfl, by decide +kernel, rfl, by decide +kernel, by decide +kernel⟩
def spBack : Sp := fun vs H Q _ => ∃ (p : Addr) (o : List Nat), vs = [.ref p] ∧ Frz H p (iv o) ∧ o ∈ ords 3 ∧ GivesT (iv (opp o)) H Q
theorem first_at : ∀ o ∈ ords 3, ∀ i < 3, o[o.idxOf i]? = some i ∧ ∀ m < o.idxOf i, o[m]? ≠ some i := by decide +kernel
theorem ok_lback (F : Fun K "_law_back" "_law_back" slaw_back f fd) (B : Blt mg) : FnG P w K mg base 1 f fd ["order_now"] spBack := by
  refine fnG F sclaw_back (fun vs H Q E h => ?_) (fun cdv A fr s H vs Q E hr gd h => ?_)
  · obtain ⟨p, o, rfl, _⟩ := h
    rfl
  · obtain ⟨p, o, rfl, hp, ho, k⟩ := h
    refine ⟨_, (pss_one (ps_ret (pe_callTy call_tuple_of (by rfl) B.m_tuple (by decide +kernel) (pa_cons (pe_lc (own := [("k", 1)]) (g := gName 1) rfl sclaw_back.nd (pi_range1 rfl B.m_range (pa_cons (pe_callB call_len (by rfl) B.m_len (by decide +kernel) (pa_cons (pv 0) pa_nil)) pa_nil)) (blkOk_by (own := [("k", 1)]) (N := Nlaw_back) (sc := defScope slaw_back) (by decide +kernel)) (fun _ _ _ _ _ => (pg_name (i := 1) sclaw_back.nd rfl (Or.inl rfl))) (fun _ _ _ _ _ => pts_nil) (fun _ _ _ _ _ => (show PE _ _ (tTI K _ _) from pe_tupIndex (pv 0) (pa_cons (pv 1) pa_nil)))) pa_nil)))), ?_⟩
    obtain ⟨ob, nod, hfz⟩ := id hp
    have hr0 : Rd H p (.tup (iv o)) := .inr ⟨ob, hfz⟩
    have ol := (ords_ok 3 (by decide) o ho).1
    have el : (iv o).length = 3 := by rw [iv_len, ol]
    refine s_retU (xs := iv (opp o)) (eu_tupleN ?_) k
    have eg : iv (opp o) = given ((((iv o).length : Nat) : Int)).toNat (fun _ => true) (fun i => .int ((o.idxOf i : Nat) : Int)) := by rw [el]; rfl
    rw [eg]
    refine el_lcR1 (n := (((iv o).length : Nat) : Int)) (fun _ => true) (fun i => .int ((o.idxOf i : Nat) : Int)) (ea_cons (ev_lenTup (ev_var rfl) hr0) ea_nil) ⟨by omega, by omega⟩ (fun x => rfl) (fun i H1 e hi => et_yes) (fun i H1 e hi _ => ?_)
    have i3 : i < 3 := by omega
    obtain ⟨f1, f2⟩ := first_at o ho i i3
    intro H2 e2 Q2 q2
    have fz2 := e2 _ _ (e _ _ hfz)
    refine ⟨_, rfl, ⟨p, iv o, rfl, ob, nod, fz2⟩, _, rfl, p, iv o, .int (i : Int), o.idxOf i, .int (i : Int), rfl, rfl, Or.inl (.inr ⟨ob, fz2⟩), rfl, ?_, iv_get f1, ?_, fun m z hm hz => ?_, q2 H2 (Ex.refl H2)⟩
    · exact List.all_eq_true.mpr fun x hx => by
        unfold iv at hx
        obtain ⟨a, _, rfl⟩ := List.mem_map.mp hx
        rfl
    · show ((i : Int) == (i : Int)) = true
      exact beq_self_eq_true _
    · obtain ⟨a, ha, rfl⟩ := iv_at hz
      have ne : a ≠ i := fun q => f2 m hm (by rw [← q]; exact ha)
      show ((a : Int) == (i : Int)) = false
      exact beq_eq_false_iff_ne.mpr (by omega)
theorem fine_tab {ds : List Nat} {n : Nat} (T : IsTab ds n) : Fine (.list [.str (tab ds), .str (tab ds)]) := by
  refine ⟨rfl, rfl, by show (1 : Nat) ≤ 20; decide, ?_⟩
  have small := T.small
  have h1 : (reprText (tab ds)).length ≤ 272 := by
    have := StrLaws.reprText_len (tab ds) (fun c hc => by
      rw [tab_cps] at hc
      obtain ⟨d, hd, rfl⟩ := List.mem_map.mp hc
      have := T.dig d hd
      exact Nat.lt_of_lt_of_le (by omega : 48 + d < 100) (by decide))
    rw [tab_len] at this
    omega
  have h2 := list_len [reprText (tab ds), reprText (tab ds)]
  rw [piled_cons, piled_cons] at h2
  have h3 : piled ([] : List Str) = 0 := rfl
  rw [h3] at h2
  show (listText [reprText (tab ds), reprText (tab ds)]).length ≤ sizeLine
  exact Nat.le_trans (by omega : _ ≤ 1000) (by decide)
section
variable {σ : L2.St} {H : Hp} {te : TE}
theorem evd_str {x : Str} (h : Ev te σ H (.str x)) : EvD K te σ H (.str x) := fun H1 e Q q => h H1 e _ fun H2 e2 => q _ H2 e2 (.str x)
end
/-! ### what the law asks of orders and puttings -/
theorem pos_num {n : Nat} {as o : List Nat} (n3 : n ≤ 3) (hl : as.length = n) (hd : ∀ a ∈ as, a < 3) : num (as.map fun a => o.getD a 0) = pos n o (num as) := by
  have key : (tups n).getD (num as) [] = as := by
    have three : ∀ {a : Nat}, a < 3 → a = 0 ∨ a = 1 ∨ a = 2 := by omega
    have : n = 0 ∨ n = 1 ∨ n = 2 ∨ n = 3 := by omega
    rcases this with rfl | rfl | rfl | rfl
    · match as, hl with
      | [], _ => rfl
    · match as, hl, hd with
      | [a], _, hd => rcases three (hd a (by simp)) with rfl | rfl | rfl <;> rfl
    · match as, hl, hd with
      | [a, b], _, hd => rcases three (hd a (by simp)) with rfl | rfl | rfl <;> rcases three (hd b (by simp)) with rfl | rfl | rfl <;> rfl
    · match as, hl, hd with
      | [a, b, c], _, hd => rcases three (hd a (by simp)) with rfl | rfl | rfl <;> rcases three (hd b (by simp)) with rfl | rfl | rfl <;> rcases three (hd c (by simp)) with rfl | rfl | rfl <;> rfl
  unfold pos
  rw [key]
theorem num_lt3 {n : Nat} {as : List Nat} (hl : as.length = n) (hd : ∀ a ∈ as, a < 3) : num as < 3 ^ n := num_lt n as hl hd
theorem ren_pos {ds : List Nat} {n k : Nat} {o : List Nat} (n3 : n ≤ 3) (ho : o ∈ ords 3) (hk : k < 3 ^ n) : (renT ds n o).getD (pos n o k) 0 = o.getD (ds.getD k 0) 0 := by
  obtain ⟨p1, _, p3, _⟩ := pos_ok n n3 o ho k hk
  rw [renT_at ds p1, p3]
theorem list_by_getD {a b : List Nat} (hl : a.length = b.length) (h : ∀ j, j < a.length → a.getD j 0 = b.getD j 0) : a = b := by
  refine List.ext_getElem? fun j => ?_
  rcases Nat.lt_or_ge j a.length with lt | ge
  · rw [digit_at lt, digit_at (by omega), h j lt]
  · rw [List.getElem?_eq_none ge, List.getElem?_eq_none (by omega)]
theorem ren_back {ds : List Nat} {n : Nat} {o : List Nat} (T : IsTab ds n) (ho : o ∈ ords 3) : renT (renT ds n o) n (opp o) = ds := by
  obtain ⟨ho', oo, ok⟩ := opp_ok o ho
  have P := renT_ok T ho
  refine list_by_getD (by rw [(renT_ok P ho').len, T.len]) fun j hj => ?_
  rw [(renT_ok P ho').len] at hj
  rw [renT_at _ hj, oo, ren_pos T.n3 ho hj]
  exact (ok _ (getD_lt3 T.dig j)).2.1
theorem ren_put {ds : List Nat} {n m : Nat} {ts : List (List Nat)} {o : List Nat} (T : IsTab ds n) (hl : ts.length = n) (hT : ∀ t ∈ ts, IsTab t m) (m3 : m ≤ 3) (ho : o ∈ ords 3) :
    putT (renT ds n o) (ts.map fun t => renT t m o) m = renT (putT ds ts m) m o := by
  have L1 : ∀ a b, (putT a b m).length = 3 ^ m := fun a b => by unfold putT; simp
  have L2 : (renT (putT ds ts m) m o).length = 3 ^ m := by unfold renT; simp
  refine list_by_getD (by rw [L1, L2]) fun j hj => ?_
  rw [L1] at hj
  obtain ⟨_, q1, _, q4⟩ := pos_ok m m3 o ho j hj
  rw [putT_at _ _ hj, renT_at _ hj, putT_at _ _ q1, List.map_map]
  have e : (ts.map ((fun t => t.getD j 0) ∘ fun t => renT t m o)) = (ts.map fun t => t.getD (pos m (opp o) j) 0).map fun a => o.getD a 0 := by
    rw [List.map_map]
    refine List.map_congr_left fun t ht => ?_
    show (renT t m o).getD j 0 = _
    rw [renT_at t hj]
    rfl
  have lt : (ts.map fun t => t.getD (pos m (opp o) j) 0).length = n := by rw [List.length_map, hl]
  have dg : ∀ a ∈ ts.map (fun t => t.getD (pos m (opp o) j) 0), a < 3 := fun a ha => by
    obtain ⟨t, ht, rfl⟩ := List.mem_map.mp ha
    exact getD_lt3 (hT t ht).dig _
  rw [e, pos_num T.n3 lt dg, ren_pos T.n3 ho (num_lt3 lt dg)]
abbrev slaw_right : Stmt := top 32
abbrev Nlaw_right : List Str := ["spring", "turn_k", "size", "far", "sheet_now", "some", "due", "order_now", "fresh", "each", "names_now", "moved", "k"]
theorem sclaw_right : FnScope Nlaw_right ["spring"] (defScope slaw_right) := ⟨rfl, rfl, rfl, by decide +kernel, rfl, by decide +kernel, by decide +kernel⟩
def spRight : Sp := fun vs H Q _ => ∃ p, vs = [.ref p] ∧ Spr H p ∧ ∀ H', But p H H' → Q (.bl true) H'
theorem ok_right (F : Fun K "_law_right" "_law_right" slaw_right f fd) (B : Blt mg) (D__law_of : DefG P w K mg base "_law_of" ["spring", "menu"] 2 (spOf K)) (D__law_draw : DefG P w K mg base "_law_draw" ["spring", "size"] 1 spDraw)
    (D__law_table : DefG P w K mg base "_law_table" ["spring", "size"] 3 spTable) (D__law_tuples : DefG P w K mg base "_law_tuples" ["size"] 1 spAllArgs)
    (D__law_at : DefG P w K mg base "_law_at" ["sheet_now", "some"] 1 spValue) (D__law_put : DefG P w K mg base "_law_put" ["sheet_now", "some"] 2 spPut)
    (D__law_order : DefG P w K mg base "_law_order" ["spring", "size"] 2 spOrder) (D__law_back : DefG P w K mg base "_law_back" ["order_now"] 1 spBack)
    (D_put_together : DefG P w K mg base "put_together" ["table", "tables"] 4 spPut) (D_turned_round : DefG P w K mg base "turned_round" ["table", "places_order"] 4 spTurn)
    (D_renamed : DefG P w K mg base "renamed" ["table", "order"] 4 spRenamed) : FnG P w K mg base 5 f fd ["spring"] spRight := by
  refine fnG F sclaw_right (fun vs H Q E h => ?_) (fun cdv A fr s H vs Q E hr gd h => ?_)
  · obtain ⟨p, rfl, _⟩ := h
    rfl
  · obtain ⟨p, rfl, S, k⟩ := h
    refine ⟨_, (pss_cons (ps_for PassesOwn.never rfl (pi_range1 rfl B.m_range (pa_cons pe_int pa_nil)) (pg_name (i := 1) sclaw_right.nd rfl (Or.inl rfl)) (pss_cons (ps_asg (pe_tup (pa_cons (pe_def D__law_of (hr.mono (by decide)) gd rfl (pa_cons (pv 0) (pa_cons (pe_lst (pa_cons pe_int (pa_cons pe_int (pa_cons pe_int (pa_cons pe_int pa_nil))))) pa_nil))) (pa_cons (pe_op op_add pe_int (pe_def D__law_draw (hr.mono (by decide)) gd rfl (pa_cons (pv 0) (pa_cons pe_int pa_nil)))) pa_nil))) (pg_tup rfl (pgs_cons (pg_name (i := 2) sclaw_right.nd rfl (Or.inl rfl)) (pgs_cons (pg_name (i := 3) sclaw_right.nd rfl (Or.inr rfl)) pgs_nil))))
  (pss_cons (ps_set (i := 4) sclaw_right.nd rfl (Or.inr rfl) (pe_def D__law_table (hr.mono (by decide)) gd rfl (pa_cons (pv 0) (pa_cons (pv 2) pa_nil))))
  (pss_cons (ps_set (i := 5) sclaw_right.nd rfl (Or.inl rfl) (pe_callTy call_tuple_of (by rfl) B.m_tuple (by decide +kernel) (pa_cons (pe_lc (own := [("k", 12)]) (g := gName 12) rfl sclaw_right.nd (pi_range1 rfl B.m_range (pa_cons (pv 2) pa_nil)) (blkOk_by (own := [("k", 12)]) (N := Nlaw_right) (sc := defScope slaw_right) (by decide +kernel)) (fun _ _ _ _ _ => (pg_name (i := 12) sclaw_right.nd rfl (Or.inl rfl))) (fun _ _ _ _ _ => pts_nil) (fun _ _ _ _ _ => (pe_def D__law_table (hr.mono (by decide)) gd rfl (pa_cons (pv 0) (pa_cons (pv 3) pa_nil))))) pa_nil)))
  (pss_cons (ps_set (i := 6) sclaw_right.nd rfl (Or.inl rfl) (pe_def D__law_put (hr.mono (by decide)) gd rfl (pa_cons (pv 4) (pa_cons (pv 5) pa_nil))))
  (pss_cons (ps_if (pt_cmpR op_ne (pe_callB (cr_repr hr gd) (by rfl) B.m_repr (by decide +kernel) (pa_cons (pe_lst (pa_cons (pe_def D_put_together (hr.mono (by decide)) gd rfl (pa_cons (pv 4) (pa_cons (pv 5) pa_nil))) (pa_cons (pe_defK D_put_together (hr.mono (by decide)) gd rfl (pk_cons (pv 5) (pk_cons (pv 4) pk_nil))) pa_nil))) pa_nil)) (pe_callB (cr_repr hr gd) (by rfl) B.m_repr (by decide +kernel) (pa_cons (pe_lst (pa_cons (pv 6) (pa_cons (pv 6) pa_nil))) pa_nil)) (nomark _)) (pss_one (ps_ret pe_bl)) pss_nil)
  (pss_cons (ps_set (i := 7) sclaw_right.nd rfl (Or.inr rfl) (pe_def D__law_order (hr.mono (by decide)) gd rfl (pa_cons (pv 0) (pa_cons pe_int pa_nil))))
  (pss_cons (ps_set (i := 8) sclaw_right.nd rfl (Or.inr rfl) (pe_def D_renamed (hr.mono (by decide)) gd rfl (pa_cons (pv 4) (pa_cons (pv 7) pa_nil))))
  (pss_cons (ps_if (PW.pt (pw_or (pt_cmpR op_ne (pe_defK D_renamed (hr.mono (by decide)) gd rfl (pk_cons (pv 7) (pk_cons (pv 4) pk_nil))) (pv 8) (nomark _)) (pw_or1 (pt_cmpR op_ne (pe_def D_renamed (hr.mono (by decide)) gd rfl (pa_cons (pv 8) (pa_cons (pe_def D__law_back (hr.mono (by decide)) gd rfl (pa_cons (pv 7) pa_nil)) pa_nil))) (pv 4) (nomark _))))) (pss_one (ps_ret pe_bl)) pss_nil)
  (pss_cons (ps_for PassesOwn.never rfl (pi_list (pe_def D__law_tuples (hr.mono (by decide)) gd rfl (pa_cons (pv 2) pa_nil))) (pg_name (i := 9) sclaw_right.nd rfl (Or.inl rfl)) (pss_one (ps_if (pt_cmpR op_ne (pe_def D__law_at (hr.mono (by decide)) gd rfl (pa_cons (pv 8) (pa_cons (pe_lc (own := [("k", 12)]) (g := gName 12) rfl sclaw_right.nd (pi_tup (pv 9)) (blkOk_by (own := [("k", 12)]) (N := Nlaw_right) (sc := defScope slaw_right) (by decide +kernel)) (fun _ _ _ _ _ => (pg_name (i := 12) sclaw_right.nd rfl (Or.inl rfl))) (fun _ _ _ _ _ => pts_nil) (fun _ _ _ _ _ => (pe_ix (show IxR _ (rIxT K) from ix_tup) (pv 7) (pv 12) (fun _ _ => rfl)))) pa_nil))) (pe_ix ix_tup (pv 7) (pe_def D__law_at (hr.mono (by decide)) gd rfl (pa_cons (pv 4) (pa_cons (pv 9) pa_nil))) (fun _ _ => rfl)) (nomark _)) (pss_one (ps_ret pe_bl)) pss_nil)))
  (pss_cons (ps_set (i := 10) sclaw_right.nd rfl (Or.inr rfl) (pe_def D__law_order (hr.mono (by decide)) gd rfl (pa_cons (pv 0) (pa_cons (pv 2) pa_nil))))
  (pss_cons (ps_set (i := 8) sclaw_right.nd rfl (Or.inr rfl) (pe_def D_turned_round (hr.mono (by decide)) gd rfl (pa_cons (pv 4) (pa_cons (pv 10) pa_nil))))
  (pss_cons (ps_if (pt_cmpR op_ne (pe_defK D_turned_round (hr.mono (by decide)) gd rfl (pk_cons (pv 10) (pk_cons (pv 4) pk_nil))) (pv 8) (nomark _)) (pss_one (ps_ret pe_bl)) pss_nil)
  (pss_cons (ps_if (pt_val (pe_callB (cr_any rfl) (by rfl) B.m_any (by decide +kernel) (pa_cons (pe_lc (own := [("each", 9)]) (g := gName 9) rfl sclaw_right.nd (pi_list (pe_def D__law_tuples (hr.mono (by decide)) gd rfl (pa_cons (pv 2) pa_nil))) (blkOk_by (own := [("each", 9)]) (N := Nlaw_right) (sc := defScope slaw_right) (by decide +kernel)) (fun _ _ _ _ _ => (pg_name (i := 9) sclaw_right.nd rfl (Or.inr rfl))) (fun _ _ _ _ _ => pts_nil) (fun _ _ _ _ _ => (pe_cmpR op_ne (pe_def D__law_at (hr.mono (by decide)) gd rfl (pa_cons (pv 8) (pa_cons (pv 9) pa_nil))) (pe_def D__law_at (hr.mono (by decide)) gd rfl (pa_cons (pv 4) (pa_cons (pe_lc (own := [("k", 12)]) (g := gName 12) rfl sclaw_right.nd (show PI _ _ _ (iTup K _) from (pi_tup (pv 10))) (blkOk_by (own := [("k", 12)]) (by rfl)) (fun _ _ _ _ _ => (pg_name (i := 12) sclaw_right.nd rfl (Or.inl rfl))) (fun _ _ _ _ _ => pts_nil) (fun _ _ _ _ _ => (pe_ix (show IxR _ (rIxT K) from ix_tup) (pv 9) (pv 12) (fun _ _ => rfl)))) pa_nil))) (nomark _)))) pa_nil))) (pss_one (ps_ret pe_bl)) pss_nil)
  (pss_cons (ps_set (i := 11) sclaw_right.nd rfl (Or.inl rfl) (pe_callTy call_tuple_of (by rfl) B.m_tuple (by decide +kernel) (pa_cons (pe_lc (own := [("each", 9)]) (g := gName 9) rfl sclaw_right.nd (pi_tup (pv 5)) (blkOk_by (own := [("each", 9)]) (N := Nlaw_right) (sc := defScope slaw_right) (by decide +kernel)) (fun _ _ _ _ _ => (pg_name (i := 9) sclaw_right.nd rfl (Or.inl rfl))) (fun _ _ _ _ _ => pts_nil) (fun _ _ _ _ _ => (pe_def D_renamed (hr.mono (by decide)) gd rfl (pa_cons (pv 9) (pa_cons (pv 7) pa_nil))))) pa_nil)))
  (pss_one (ps_if (pt_cmpR op_ne (pe_def D_put_together (hr.mono (by decide)) gd rfl (pa_cons (pe_def D_renamed (hr.mono (by decide)) gd rfl (pa_cons (pv 4) (pa_cons (pv 7) pa_nil))) (pa_cons (pv 11) pa_nil))) (pe_def D_renamed (hr.mono (by decide)) gd rfl (pa_cons (pv 6) (pa_cons (pv 7) pa_nil))) (nomark _)) (pss_one (ps_ret pe_bl)) pss_nil)))))))))))))))))
  (pss_one (ps_ret pe_bl))), ?_⟩
    refine q_forR1 (n := 5) (ea_cons ev_c ea_nil) ⟨by decide, by decide⟩ (fun i σ H2 => ∃ v1 v2 v3 v4 v5 v6 v7 v8 v9 v10 v11 : Option V, σ = [some (.ref p), v1, v2, v3, v4, v5, v6, v7, v8, v9, v10, v11, none] ∧ Spr H2 p ∧ But p H H2)
      (fun H1 e1 => ⟨none, none, none, none, none, none, none, none, none, none, none, rfl, spr_ex e1 S, But.of e1⟩) ?_ ?_
    rotate_left
    · rintro σ H2 ⟨_, _, _, _, _, _, _, _, _, _, _, rfl, _, b⟩
      exact k H2 b
    rintro i σ H0 _ ⟨v1, v2, v3, v4, v5, v6, v7, v8, v9, v10, v11, rfl, S0, b0⟩
    -- size, far
    refine ⟨_, rfl, (by show 4 ≤ sizeLine; decide), fun l hl => ?_⟩
    have pl : l ≠ p := by
      obtain ⟨_, _, _, hp, _⟩ := S0
      exact (ne_of_none hp hl).symm
    refine ⟨p, l, [.int 1, .int 2, .int 2, .int 3], rfl, pl, spr_ex (Ex.new hl) S0, SqL.of upd_same, by simp, by decide, fun v H1 hv S1 b1 => ?_⟩
    obtain ⟨n, rfl, n1, n3⟩ : ∃ n : Nat, v = .int (n : Int) ∧ 1 ≤ n ∧ n ≤ 3 := by
      rcases List.mem_cons.mp hv with rfl | hv
      · exact ⟨1, rfl, by decide, by decide⟩
      rcases List.mem_cons.mp hv with rfl | hv
      · exact ⟨2, rfl, by decide, by decide⟩
      rcases List.mem_cons.mp hv with rfl | hv
      · exact ⟨2, rfl, by decide, by decide⟩
      rcases List.mem_cons.mp hv with rfl | hv
      · exact ⟨3, rfl, by decide, by decide⟩
      · cases hv
    refine ⟨_, rfl, p, 2, rfl, S1, by decide, by decide, fun d H2 d0 d1 S2 b2 => ?_⟩
    refine ⟨_, _, rfl, rfl, by show 2 ≤ sizeLine; decide, fun q hq => ⟨q, _, rfl, st_of upd_same, rfl, _, _, rfl, _, _, rfl, rfl, ?_⟩⟩
    obtain ⟨m, em, m1, m3⟩ : ∃ m : Nat, 1 + d = (m : Int) ∧ 1 ≤ m ∧ m ≤ 3 := ⟨(1 + d).toNat, by omega, by omega, by omega⟩
    have eq1 := Ex.new (o := .tup [.int (n : Int), .int (1 + d)]) hq
    have S3 := spr_ex eq1 S2
    have b3 := ((b0.trans (But.of (Ex.new hl))).trans b1).trans b2
    have b3' := b3.trans (But.of eq1)
    -- sheet_now, some
    refine ⟨_, rfl, _, rfl, p, n, rfl, S3, n1, n3, fun ds H4 T S4 b4 => ?_⟩
    have b4' := b3'.trans b4
    refine ⟨_, rfl, (n : Int), rfl, by omega, by omega, fun D hD => lc_range (lo := 0) (n := n)
      (fun i H' => Spr H' p ∧ But p H4 H' ∧ ∃ ts : List (List Nat), ts.length = i ∧ (∀ t ∈ ts, IsTab t m) ∧ H' D = some (.lst (ts.map fun t => V.str (tab t)))) ⟨spr_ex (Ex.new hD) S4, But.of (Ex.new hD), [], rfl, by simp, upd_same⟩ ?_ ?_⟩
    · have Dp : D ≠ p := by
        obtain ⟨_, _, _, hp, _⟩ := S4
        exact (ne_of_none hp hD).symm
      rintro i H5 hi ⟨S5, b5, ts, tsl, tsT, hts⟩
      refine ⟨rfl, yes_go ⟨_, rfl, _, rfl, p, m, congrArg (fun z => [V.ref p, V.int z]) em, S5, m1, m3, fun t H6 Tt S6 b6 => ⟨ts.map fun t => V.str (tab t), b6 _ _ Dp hts, ?_, ?_, ?_, ts ++ [t], by rw [List.length_append, tsl]; rfl, ?_, ?_⟩⟩⟩
      · rw [List.length_map, tsl]
        exact Nat.lt_of_lt_of_le (by omega : i < 3) (by decide)
      · obtain ⟨x, y, z, hp6, r⟩ := S6
        exact ⟨x, y, z, by rw [upd_ne Dp.symm]; exact hp6, r⟩
      · intro b o nb hb
        rw [upd_ne (ne_of_none hb hD)]
        exact b6 b o nb (b5 b o nb hb)
      · intro u hu
        rcases List.mem_append.mp hu with h | h
        · exact tsT u h
        · obtain rfl := List.mem_singleton.mp h
          exact Tt
      · rw [upd_same, List.map_append]
        rfl
    rintro H5 ⟨S5, b5, ts, tsl, tsT, hts⟩
    refine ⟨D, _, rfl, Or.inl ⟨SqL.of hts, fun ps hps => ?_⟩⟩
    refine gen_app fun H6 eH6 => ?_
    have e6 : Ex H5 H6 := by rw [eH6]; exact Ex.new hps
    have hps6 : H6 ps = some (.tup (ts.map fun t => V.str (tab t))) := by rw [eH6]; exact upd_same
    have S6 := spr_ex e6 S5
    have b6' := (b4'.trans b5).trans (But.of e6)
    clear eH6 hps
    have psp : ps ≠ p := fun z => by
      obtain ⟨_, _, _, hp, _⟩ := S6
      rw [z, hp] at hps6
      cases hps6
    have n1' := T.n1
    have PD := putT_ok T (by omega) tsT
    -- due, put_together
    refine q_asg (v := .str (tab (putT ds ts m))) (ev_def (ea_cons (ev_var rfl) (ea_cons (ev_var rfl) ea_nil)) fun H7 e7 Q7 q7 => ⟨ds, n, m, ps, ts, T, rfl, e7 _ _ hps6, tsl, tsT, q7⟩) fun H7 e7 => ?_
    have hps7 := e7 _ _ hps6
    refine q_pass (et_shows (d := .list [.str (tab (putT ds ts m)), .str (tab (putT ds ts m))]) (fine_tab PD)
      (evr_lst (evds_cons (evd_str (ev_def (ea_cons (ev_var rfl) (ea_cons (ev_var rfl) ea_nil)) fun H8 e8 Q8 q8 => ⟨ds, n, m, ps, ts, T, rfl, e8 _ _ hps7, tsl, tsT, q8⟩))
        (evds_cons (evd_str (ev_defK (ea_cons (ev_var rfl) (ea_cons (ev_var rfl) ea_nil)) fun H8 e8 Q8 q8 => ⟨ds, n, m, ps, ts, T, rfl, e8 _ _ hps7, tsl, tsT, q8⟩)) evds_nil)) (by show 2 ≤ 1000; decide))
      (evr_lst (evds_cons (evd_str (ev_var rfl)) (evds_cons (evd_str (ev_var rfl)) evds_nil)) (by show 2 ≤ 1000; decide))) fun H8 e8 => ?_
    -- order_now
    refine ⟨_, rfl, p, 3, rfl, spr_ex (e7.trans e8) S6, by decide, by decide, fun o po H9 ho _ b9 S9 fz => ?_⟩
    have b9' := (b6'.trans (But.of (e7.trans e8))).trans b9
    have hps9 := b9 _ _ psp (e8 _ _ hps7)
    obtain ⟨ob, nod, hpo⟩ := id fz
    have ro : Rd H9 po (.tup (iv o)) := .inr ⟨ob, hpo⟩
    have pop : po ≠ p := fun z => by
      obtain ⟨_, _, _, hp, _⟩ := S9
      rw [z, hp] at hpo
      cases hpo
    obtain ⟨ol, olt, _⟩ := ords_ok 3 (by decide) o ho
    have PR := renT_ok T ho
    -- fresh
    refine q_asg (v := .str (tab (renT ds n o))) (ev_def (ea_cons (ev_var rfl) (ea_cons (ev_var rfl) ea_nil)) fun H10 e10 Q10 q10 => ⟨ds, n, po, o, T, rfl, ex_rd e10 ro, ho, q10⟩) fun H10 e10 => ?_
    have ro10 := ex_rd e10 ro
    have ho' := (opp_ok o ho).1
    refine q_pass (et_is (et_or (et_test (ev_op (ev_defK (v := .str (tab (renT ds n o))) (ea_cons (ev_var rfl) (ea_cons (ev_var rfl) ea_nil)) fun H11 e11 Q11 q11 => ⟨ds, n, po, o, T, rfl, ex_rd e11 ro10, ho, q11⟩) (ev_var rfl) (rv_ne rfl))) fun _ =>
      et_test (ev_op (ev_def2U (v := .str (tab ds)) (xs := iv (opp o)) (ev_var rfl) (eu_def (ea_cons (ev_var rfl) ea_nil) fun H11 e11 Q11 q11 => ⟨po, o, rfl, ⟨ob, nod, e11 _ _ (e10 _ _ hpo)⟩, ho, q11⟩) fun pb H11 e11 hpb Q11 q11 =>
        ⟨renT ds n o, n, pb, opp o, PR, rfl, .inl hpb, ho', by rw [ren_back T ho]; exact q11⟩) (ev_var rfl) (rv_ne rfl))) (by rw [decide_eq_true rfl, decide_eq_true rfl]; rfl)) fun H11 e11 => ?_
    have ro11 := ex_rd e11 ro10
    -- at all arguments
    refine ⟨_, rfl, n, Nat.le_succ_of_le n3, rfl, fun lt H12 xs hlt e12 hx R => ⟨lt, rfl, ⟨xs, SqL.of hx⟩, for_list (K := K) (a := lt) (xs := xs)
      (fun j σ H' => ∃ w9 : Option V, σ = [some (.ref p), some (.int (i : Int)), some (.int (n : Int)), some (.int (1 + d)), some (.str (tab ds)), some (.ref ps), some (.str (tab (putT ds ts m))), some (.ref po), some (.str (tab (renT ds n o))), w9, v10, v11, none] ∧ Ex H12 H')
      ⟨v9, rfl, Ex.refl _⟩ (fun j σ H' _ ⟨_, _, e'⟩ => SqL.of (e' _ _ hx)) ?_ ?_⟩⟩
    · rintro j x σ H13 hj ⟨w9, rfl, e13⟩
      obtain ⟨as, ha, ra, rfl, hra⟩ := R.get hj
      obtain ⟨na, al, ad, _⟩ := row_of n3 ha
      have hra13 := e13 _ _ hra
      have ro13 := ex_rd e13 (ex_rd e12 ro11)
      have dg : ∀ a ∈ as.map (fun a => o.getD a 0), a < 3 := fun a ha => by
        obtain ⟨b, hb, rfl⟩ := List.mem_map.mp ha
        exact getD_lt3 olt _
      have ev1 : val (renT ds n o) (as.map fun a => o.getD a 0) = o.getD (val ds as) 0 := by
        unfold val
        rw [pos_num n3 al ad, ren_pos n3 ho (num_lt3 al ad)]
      have v3' := (T.at al ad).2
      refine s_pass (et_is (et_test (ev_op (x := .int (o.getD (val ds as) 0 : Nat)) (y := .int (o.getD (val ds as) 0 : Nat)) (ev_is (ev_def2L (v := .int (val (renT ds n o) (as.map fun a => o.getD a 0) : Nat)) (xs := iv (as.map fun a => o.getD a 0)) (ev_var rfl) ?_ fun pl H14 e14 hpl Q14 q14 =>
        ⟨renT ds n o, n, pl, _, PR, rfl, .inr hpl, by rw [List.length_map]; exact al, dg, q14⟩) (by rw [ev1])) (ev_op (ev_var rfl) (ev_def (v := .int (val ds as : Nat)) (ea_cons (ev_var rfl) (ea_cons (ev_var rfl) ea_nil)) fun H14 e14 Q14 q14 =>
        ⟨ds, n, ra, as, T, rfl, .inl (e14 _ _ hra13), al, ad, q14⟩) (rv_ixT (Or.inl ro13) (atI_nat (iv_get ?_)))) (rv_ne rfl))) (by rw [decide_eq_true rfl]; rfl)) fun H14 e14 => ⟨_, rfl, e13.trans e14⟩
      · rw [nums_given]
        refine el_lcT (a := ra) (xs := iv as) (fun _ => true) (fun i => .int ((o.getD (as.getD i 0) 0 : Nat) : Int)) (ev_var rfl) (st_of hra13) (by rw [iv_len]; omega) (fun y => rfl) (fun i x H1 e hx => et_yes) (fun i x H15 e15 hx _ => ?_)
        obtain ⟨a, ha', rfl⟩ := iv_at hx
        have ea : as.getD i 0 = a := by rw [List.getD_eq_getElem?_getD, ha']; rfl
        rw [ea]
        have lt : a < o.length := by rw [ol]; exact ad a (List.mem_of_getElem? ha')
        exact ev_op (ev_var rfl) (ev_var rfl) (rv_ixT (Or.inl (ex_rd e15 ro13)) (atI_nat (iv_get (digit_at lt))))
      · exact digit_at (by omega)
    rintro σ H13 ⟨w9, rfl, e13⟩
    have e913 := ((e10.trans e11).trans e12).trans e13
    -- names_now
    refine ⟨_, rfl, _, rfl, p, n, rfl, spr_ex e913 S9, n1, n3, fun o2 pn H14 ho2 _ b14 S14 fz2 => ?_⟩
    have b14' := (b9'.trans (But.of e913)).trans b14
    have hps14 := b14 _ _ psp (e913 _ _ hps9)
    have hpo14 := b14 _ _ pop (e913 _ _ hpo)
    have ro14 : Rd H14 po (.tup (iv o)) := .inr ⟨ob, hpo14⟩
    obtain ⟨ob2, nod2, hpn⟩ := id fz2
    have rn14 : Rd H14 pn (.tup (iv o2)) := .inr ⟨ob2, hpn⟩
    have PT2 := turnT_ok T o2
    obtain ⟨o2l, o2lt, _⟩ := ords_ok n n3 o2 ho2
    refine q_asg (v := .str (tab (turnT ds n o2))) (ev_def (ea_cons (ev_var rfl) (ea_cons (ev_var rfl) ea_nil)) fun H15 e15 Q15 q15 => ⟨ds, n, pn, o2, T, rfl, ex_rd e15 rn14, ho2, q15⟩) fun H15 e15 => ?_
    have rn15 := ex_rd e15 rn14
    refine q_pass (et_is (et_test (ev_op (ev_defK (v := .str (tab (turnT ds n o2))) (ea_cons (ev_var rfl) (ea_cons (ev_var rfl) ea_nil)) fun H16 e16 Q16 q16 => ⟨ds, n, pn, o2, T, rfl, ex_rd e16 rn15, ho2, q16⟩) (ev_var rfl) (rv_ne rfl))) (by rw [decide_eq_true rfl]; rfl)) fun H16 e16 => ?_
    have rn16 := ex_rd e16 rn15
    have none_true : (List.replicate (3 ^ n) false).any id = false := by simp
    refine q_pass (et_is (et_B (ev_anyN (bs := List.replicate (3 ^ n) false) fun H17 e17 Q17 q17 => ?_)) none_true) fun H17 e17 => ?_
    · refine ⟨_, rfl, n, Nat.le_succ_of_le n3, rfl, fun lr H18 ys hlr e18 hy R2 => ⟨lr, rfl, ⟨ys, SqL.of hy⟩, fun D hD => lc_list (K := K) (xs := ys) (Cw H18 (fun _ => true) (fun _ => .bl false) D) ⟨hD, Ex.new hD, upd_same⟩ (fun i H' _ pc => sq_of (pc.2.1 _ _ hy))
        (fun j x H' hj pc => ⟨rfl, ?_⟩) (fun H' pc => ?_)⟩⟩
      · obtain ⟨as, ha, ra, rfl, hra⟩ := R2.get hj
        obtain ⟨na, al, ad, _⟩ := row_of n3 ha
        have jl : j < 3 ^ n := by rw [← (tups_ok n n3).1]; exact (List.getElem?_eq_some_iff.mp ha).1
        have small := T.small
        have rn18 := ex_rd e18 (ex_rd e17 rn16)
        have dg : ∀ a ∈ o2.map (fun k => as.getD k 0), a < 3 := fun a ha => by
          obtain ⟨b, hb, rfl⟩ := List.mem_map.mp ha
          exact getD_lt3 ad _
        have ev1 : val (turnT ds n o2) as = val ds (o2.map fun k => as.getD k 0) := by
          unfold val turnT
          rw [na, List.getD_eq_getElem?_getD, List.getElem?_map, ha]
          rfl
        refine cw_turn pc (by rw [← T.len] at jl; omega) et_yes fun _ => ?_
        refine ev_is (ev_op (x := .int (val ds (o2.map fun k => as.getD k 0) : Nat)) (y := .int (val ds (o2.map fun k => as.getD k 0) : Nat)) (ev_is (ev_def (v := .int (val (turnT ds n o2) as : Nat)) (ea_cons (ev_var rfl) (ea_cons (ev_var rfl) ea_nil)) fun H19 e19 Q19 q19 =>
          ⟨turnT ds n o2, n, ra, as, PT2, rfl, .inl (e19 _ _ hra), al, ad, q19⟩) (by rw [ev1])) (ev_def2L (xs := iv (o2.map fun k => as.getD k 0)) (ev_var rfl) ?_ fun pl H19 e19 hpl Q19 q19 =>
          ⟨ds, n, pl, _, T, rfl, .inr hpl, by rw [List.length_map]; exact o2l, dg, q19⟩) (rv_ne rfl)) (by rw [decide_eq_true rfl]; rfl)
        rw [nums_given]
        refine el_lcT (a := pn) (xs := iv o2) (fun _ => true) (fun i => .int ((as.getD (o2.getD i 0) 0 : Nat) : Int)) (ev_var rfl) (Or.inl rn18) (by rw [iv_len]; omega) (fun y => rfl) (fun i x H1 e hx => et_yes) (fun i x H20 e20 hx _ => ?_)
        obtain ⟨a, ha', rfl⟩ := iv_at hx
        have ea : o2.getD i 0 = a := by rw [List.getD_eq_getElem?_getD, ha']; rfl
        rw [ea]
        have lt : a < as.length := by rw [al]; exact o2lt a (List.mem_of_getElem? ha')
        exact ev_op (ev_var rfl) (ev_var rfl) (rv_ixT (st_of (e20 _ _ hra)) (atI_nat (iv_get (digit_at lt))))
      · have h3 := pc.2.2
        have eg : given ys.length (fun _ => true) (fun _ => V.bl false) = (List.replicate (3 ^ n) false).map V.bl := by
          unfold given
          rw [List.filter_eq_self.mpr fun _ _ => rfl, List.map_const', List.length_range, List.map_replicate, R2.len, (tups_ok n n3).1]
        rw [eg] at h3
        exact q17 D H' (fresh_back e18 pc.1) (e18.trans pc.2.1) h3
    -- moved
    have e1417 := (e15.trans e16).trans e17
    have hps17 := e1417 _ _ hps14
    have ro17 := ex_rd e1417 ro14
    refine q_asgU (xs := (ts.map fun t => renT t m o).map fun t => V.str (tab t)) (eu_tupleN ?_) fun pm H18 hpm e18 h18 => ?_
    · have eg : ((ts.map fun t => renT t m o).map fun t => V.str (tab t)) = given (ts.map fun t => V.str (tab t)).length (fun _ => true) (fun i => .str (tab (renT (ts.getD i []) m o))) := by
        rw [List.length_map, given_iv [] ts (fun t => V.str (tab (renT t m o))), List.map_map]
        rfl
      rw [eg]
      refine el_lcT (a := ps) (xs := ts.map fun t => V.str (tab t)) (fun _ => true) (fun i => .str (tab (renT (ts.getD i []) m o))) (ev_var rfl) (st_of hps17) (by rw [List.length_map]; omega) (fun y => rfl) (fun i x H1 e hx => et_yes) (fun i x H19 e19 hx _ => ?_)
      obtain ⟨t, ht, rfl⟩ := str_at_tabs hx
      have eti : ts.getD i [] = t := by rw [List.getD_eq_getElem?_getD, ht]; rfl
      rw [eti]
      exact ev_def (ea_cons (ev_var rfl) (ea_cons (ev_var rfl) ea_nil)) fun H20 e20 Q20 q20 => ⟨t, m, po, o, tsT t (List.mem_of_getElem? ht), rfl, ex_rd e20 (ex_rd e19 ro17), ho, q20⟩
    have ro18 := ex_rd e18 ro17
    refine s_pass (et_is (et_test (ev_op (x := .str (tab (renT (putT ds ts m) m o))) (y := .str (tab (renT (putT ds ts m) m o))) (ev_def (ea_cons (ev_def (v := .str (tab (renT ds n o))) (ea_cons (ev_var rfl) (ea_cons (ev_var rfl) ea_nil)) fun H19 e19 Q19 q19 =>
      ⟨ds, n, po, o, T, rfl, ex_rd e19 ro18, ho, q19⟩) (ea_cons (ev_var rfl) ea_nil)) fun H19 e19 Q19 q19 => ⟨renT ds n o, n, m, pm, ts.map fun t => renT t m o, PR, rfl, e19 _ _ h18, by rw [List.length_map]; exact tsl, fun t ht => by
        obtain ⟨u, hu, rfl⟩ := List.mem_map.mp ht
        exact renT_ok (tsT u hu) ho, by rw [ren_put T tsl tsT m3 ho]; exact q19⟩) (ev_def (ea_cons (ev_var rfl) (ea_cons (ev_var rfl) ea_nil)) fun H19 e19 Q19 q19 =>
      ⟨putT ds ts m, m, po, o, PD, rfl, ex_rd e19 ro18, ho, q19⟩) (rv_ne rfl))) (by rw [decide_eq_true rfl]; rfl)) fun H19 e19 => ?_
    exact ⟨_, _, _, _, _, _, _, _, _, _, _, rfl, spr_ex ((e1417.trans e18).trans e19) S14, b14'.trans (But.of ((e1417.trans e18).trans e19))⟩
end
end Tv

namespace Tv
open PySem PySem.Spec PyProof.Rows L2 Evl
section
variable {P : Program} {w : World} {K : PySem.W.Frag} {mg : Str → Option Value} {base : Heap} {f aL : Addr} {fd : FuncData}
section
variable {σ : L2.St} {H : Hp} {ta tb te : TE}
theorem evd_r {d : PyData} (h : EvR K te σ H d) : EvD K te σ H d := fun H1 e Q q => h H1 e Q fun p H2 e2 hd => q (.ref p) H2 e2 hd
theorem evd_tupD {xs : List V} {ds : List PyData} (h : EvU te σ H xs) (hd : ∀ H1, DpAll K H1 xs ds) : EvD K te σ H (.tuple ds) :=
  fun H1 e Q q => h H1 e _ fun p H2 _ e2 hp => q _ H2 e2 (.tup (st_of hp) (hd H2))
theorem dp_strs {H : Hp} : ∀ ys : List Str, DpAll K H (ys.map V.str) (ys.map PyData.str)
  | [] => .nil
  | a :: r => .cons (.str a) (dp_strs r)
theorem ev_sameD {d : PyData} (h1 : EvD K ta σ H d) (h2 : EvD K tb σ H d) (s : SeqAt.shaped d = true) (q0 : PyData.eqv d d = true) : Ev (tOp (rNeD K) ta tb) σ H (.bl false) :=
  fun H1 e Q q => h1 H1 e _ fun v H2 e2 dv => h2 H2 (e.trans e2) _ fun u H3 e3 du => ⟨d, d, dp_mono e3 dv, du, s, s, by rw [q0]; exact q H3 (e2.trans e3)⟩
theorem q_asgR {d : PyData} {D : Ends} {tz : TS} {i : Nat} (h : EvR K te σ H d) (k : ∀ p H1, Ex H H1 → Dp K H1 (.ref p) d → tz D (σ.set i (some (.ref p))) H1) : tSeq (tAsg te (gName i)) tz D σ H :=
  h H (Ex.refl H) _ fun p H1 e hd => k p H1 e hd
theorem ev_lenSq {p : Addr} {xs : List V} (h : Ev te σ H (.ref p)) (hx : SqL K H p xs) :
    Ev (tCB (fun xs H Q => ∃ x n, xs = [x] ∧ LenV K x H n ∧ Q (.int (n : Nat)) H) (tCons te tNil)) σ H (.int (xs.length : Nat)) :=
  fun H1 e Q q => h H1 e _ fun H2 e2 => ⟨.ref p, xs.length, rfl, Or.inl ⟨xs, ex_l (e.trans e2) hx, rfl⟩, q H2 e2⟩
theorem ev_least {i j : Int} (ha : Ev ta σ H (.int i)) (hb : Ev tb σ H (.int j)) :
    Ev (tCB (fun xs H Q => ∃ i j, xs = [.int i, .int j] ∧ Q (.int (if j < i then j else i)) H) (tCons ta (tCons tb tNil))) σ H (.int (if j < i then j else i)) := fun H1 e Q q =>
  ha H1 e _ fun H2 e2 => hb H2 (e.trans e2) _ fun H3 e3 => ⟨i, j, rfl, q H3 (e2.trans e3)⟩
theorem ev_most {i j : Int} (ha : Ev ta σ H (.int i)) (hb : Ev tb σ H (.int j)) :
    Ev (tCB (fun xs H Q => ∃ i j, xs = [.int i, .int j] ∧ Q (.int (if j > i then j else i)) H) (tCons ta (tCons tb tNil))) σ H (.int (if j > i then j else i)) := fun H1 e Q q =>
  ha H1 e _ fun H2 e2 => hb H2 (e.trans e2) _ fun H3 e3 => ⟨i, j, rfl, q H3 (e2.trans e3)⟩
end
def spScript (K : PySem.W.Frag) : Sp := fun vs H Q _ => ∃ (a : Addr) (ns : List Int), vs = [.ref a] ∧ SqL K H a (ns.map V.int) ∧ ns.length ≤ 63 ∧ ∀ H', Q (.bl true) H'
def sA : List Nat := [0,1,2,1,1,2,2,2,2]
def sB : List Nat := [0,0,0,1,1,1,2,2,2]
def sC : List Nat := [1,2,0]
def sD : List Nat := [0,1,2]
theorem known_ok : IsTab sA 2 ∧ IsTab sB 2 ∧ IsTab sC 1 ∧ IsTab sD 1 :=
  ⟨⟨by decide, by decide, by decide, by decide⟩, ⟨by decide, by decide, by decide, by decide⟩, ⟨by decide, by decide, by decide, by decide⟩, ⟨by decide, by decide, by decide, by decide⟩⟩
theorem known_vals : putT sA [sD, sC] 1 = [1,2,2] ∧ putT sC [sA] 2 = [1,2,0,2,2,0,0,0,0] ∧ turnT sB 2 [1,0] = [0,1,2,0,1,2,0,1,2] ∧ renT sA 2 [2,1,0] = [0,0,0,0,1,1,0,1,2] ∧ renT sC 1 [0,2,1] = [2,0,1] := by
  refine ⟨?_, ?_, ?_, ?_, ?_⟩ <;> decide +kernel
abbrev slaw : Stmt := top 33
abbrev Nlaw : List Str := ["script", "answers", "k"]
theorem sclaw : FnScope Nlaw ["script"] (defScope slaw) := ⟨rfl, rfl, rfl, by decide +kernel, rfl, by decide +kernel, by decide +kernel⟩
theorem ok_law (F : Fun K "law" "law" slaw f fd) (B : Blt mg) (D_put_together : DefG P w K mg base "put_together" ["table", "tables"] 4 spPut) (D_turned_round : DefG P w K mg base "turned_round" ["table", "places_order"] 4 spTurn)
    (D_renamed : DefG P w K mg base "renamed" ["table", "order"] 4 spRenamed) (D__law_spring : DefG P w K mg base "_law_spring" ["cells", "k"] 1 (spSpring K))
    (D__law_right : DefG P w K mg base "_law_right" ["spring"] 5 spRight) : FnG P w K mg base 6 f fd ["script"] (spScript K) := by
  refine fnG F sclaw (fun vs H Q E h => ?_) (fun cdv A fr s H vs Q E hr gd h => ?_)
  · obtain ⟨a, ns, rfl, _⟩ := h
    rfl
  · obtain ⟨a, ns, rfl, hS, many, k⟩ := h
    refine ⟨_, (pss_cons (ps_if (pt_cmpR (op_neD (hr.units)) (pe_lst (pa_cons (pe_def D_put_together (hr.mono (by decide)) gd rfl (pa_cons pe_str (pa_cons (pe_tup (pa_cons pe_str (pa_cons pe_str pa_nil))) pa_nil))) (pa_cons (pe_def D_put_together (hr.mono (by decide)) gd rfl (pa_cons pe_str (pa_cons (pe_tup (pa_cons pe_str pa_nil)) pa_nil))) pa_nil))) (pe_lst (pa_cons pe_str (pa_cons pe_str pa_nil))) (nomark _)) (pss_one (ps_ret pe_bl)) pss_nil)
  (pss_cons (ps_set (i := 1) sclaw.nd rfl (Or.inl rfl) (pe_lst (pa_cons (pe_def D_turned_round (hr.mono (by decide)) gd rfl (pa_cons pe_str (pa_cons (pe_tup (pa_cons pe_int (pa_cons pe_int pa_nil))) pa_nil))) (pa_cons (pe_def D_renamed (hr.mono (by decide)) gd rfl (pa_cons pe_str (pa_cons (pe_tup (pa_cons pe_int (pa_cons pe_int (pa_cons pe_int pa_nil)))) pa_nil))) (pa_cons (pe_def D_renamed (hr.mono (by decide)) gd rfl (pa_cons pe_str (pa_cons (pe_tup (pa_cons pe_int (pa_cons pe_int (pa_cons pe_int pa_nil)))) pa_nil))) pa_nil)))))
  (pss_cons (ps_if (pt_cmpR (op_neD (hr.units)) (pv 1) (pe_lst (pa_cons pe_str (pa_cons pe_str (pa_cons pe_str pa_nil)))) (nomark _)) (pss_one (ps_ret pe_bl)) pss_nil)
  (pss_one (ps_ret (pe_callB (cr_all rfl) (by rfl) B.m_all (by decide +kernel) (pa_cons (pe_lc (own := [("k", 2)]) (g := gName 2) rfl sclaw.nd (pi_range1 rfl B.m_range (pa_cons (pe_callB (call_max2 rfl) (by rfl) B.m_max (by decide +kernel) (pa_cons pe_int (pa_cons (pe_callB (call_min2 rfl) (by rfl) B.m_min (by decide +kernel) (pa_cons (pe_callB call_len (by rfl) B.m_len (by decide +kernel) (pa_cons (pv 0) pa_nil)) (pa_cons pe_int pa_nil))) pa_nil))) pa_nil)) (blkOk_by (own := [("k", 2)]) (N := Nlaw) (sc := defScope slaw) (by decide +kernel)) (fun _ _ _ _ _ => (pg_name (i := 2) sclaw.nd rfl (Or.inl rfl))) (fun _ _ _ _ _ => pts_nil) (fun _ _ _ _ _ => (pe_def D__law_right (hr.mono (by decide)) gd rfl (pa_cons (pe_def D__law_spring (hr.mono (by decide)) gd rfl (pa_cons (pv 0) (pa_cons (pv 2) pa_nil))) pa_nil)))) pa_nil))))))), ?_⟩
    obtain ⟨okA, okB, okC, okD⟩ := known_ok
    obtain ⟨v1, v2, v3, v4, v5⟩ := known_vals
    have all1 : ∀ t ∈ [sD, sC], IsTab t 1 := fun t ht => by
      rcases List.mem_cons.mp ht with rfl | ht
      · exact okD
      rcases List.mem_cons.mp ht with rfl | ht
      · exact okC
      · cases ht
    have all2 : ∀ t ∈ [sA], IsTab t 2 := fun t ht => by
      rcases List.mem_cons.mp ht with rfl | ht
      · exact okA
      · cases ht
    refine q_pass (et_test (ev_sameD (d := .list [.str (tab [1,2,2]), .str (tab [1,2,0,2,2,0,0,0,0])])
      (evd_r (evr_lst (evds_cons (evd_str (ev_def2U (xs := [sD, sC].map fun t => V.str (tab t)) ev_c (eu_tup (ea_cons ev_c (ea_cons ev_c ea_nil)) (by show 2 ≤ 100000; decide)) fun p H1 e1 hp Q1 q1 => ⟨sA, 2, 1, p, [sD, sC], okA, rfl, hp, rfl, all1, by rw [v1]; exact q1⟩))
        (evds_cons (evd_str (ev_def2U (xs := [sA].map fun t => V.str (tab t)) ev_c (eu_tup (ea_cons ev_c ea_nil) (by show 1 ≤ 100000; decide)) fun p H1 e1 hp Q1 q1 => ⟨sC, 1, 2, p, [sA], okC, rfl, hp, rfl, all2, by rw [v2]; exact q1⟩)) evds_nil)) (by show 2 ≤ 1000; decide)))
      (evd_r (evr_lst (evds_cons (evd_str ev_c) (evds_cons (evd_str ev_c) evds_nil)) (by show 2 ≤ 1000; decide))) (by decide +kernel) (by decide +kernel))) fun H2 e2 => ?_
    refine q_asgR (K := K) (d := .list [.str (tab [0,1,2,0,1,2,0,1,2]), .str (tab [0,0,0,0,1,1,0,1,2]), .str (tab [2,0,1])])
      (evr_lst (evds_cons (evd_str (ev_def2U (xs := iv [1, 0]) ev_c (eu_tup (ea_cons ev_c (ea_cons ev_c ea_nil)) (by show 2 ≤ 100000; decide)) fun p H3 e3 hp Q3 q3 => ⟨sB, 2, p, [1, 0], okB, rfl, .inl hp, by decide, by rw [v3]; exact q3⟩))
        (evds_cons (evd_str (ev_def2U (xs := iv [2, 1, 0]) ev_c (eu_tup (ea_cons ev_c (ea_cons ev_c (ea_cons ev_c ea_nil))) (by show 3 ≤ 100000; decide)) fun p H3 e3 hp Q3 q3 => ⟨sA, 2, p, [2, 1, 0], okA, rfl, .inl hp, by decide, by rw [v4]; exact q3⟩))
        (evds_cons (evd_str (ev_def2U (xs := iv [0, 2, 1]) ev_c (eu_tup (ea_cons ev_c (ea_cons ev_c (ea_cons ev_c ea_nil))) (by show 3 ≤ 100000; decide)) fun p H3 e3 hp Q3 q3 => ⟨sC, 1, p, [0, 2, 1], okC, rfl, .inl hp, by decide, by rw [v5]; exact q3⟩)) evds_nil))) (by show 3 ≤ 1000; decide)) fun pa H4 e4 h4 => ?_
    refine q_pass (et_test (ev_sameD (evd_ref (ev_var rfl) h4) (evd_r (evr_lst (evds_cons (evd_str ev_c) (evds_cons (evd_str ev_c) (evds_cons (evd_str ev_c) evds_nil))) (by show 3 ≤ 1000; decide))) (by decide +kernel) (by decide +kernel))) fun H5 e5 => ?_
    -- the springs
    have S5 : SqL K H5 a (ns.map V.int) := ex_l ((e2.trans e4).trans e5) hS
    generalize em2 : (if (if 5 < (((ns.map V.int).length : Nat) : Int) then 5 else (((ns.map V.int).length : Nat) : Int)) > 2 then (if 5 < (((ns.map V.int).length : Nat) : Int) then 5 else (((ns.map V.int).length : Nat) : Int)) else 2) = m
    have m05 : 0 ≤ m ∧ m ≤ 5 := by
      rw [← em2]
      split <;> split <;> omega
    refine s_ret (v := .bl ((List.replicate m.toNat true).all id)) (ev_allN ?_) fun H6 e6 => ?_
    · have eg : (List.replicate m.toNat true).map V.bl = given m.toNat (fun _ => true) (fun _ => .bl true) := by
        unfold given
        rw [List.filter_eq_self.mpr fun _ _ => rfl, List.map_replicate, List.map_const', List.length_range]
      rw [eg]
      refine el_lcR1 (n := m) (fun _ => true) (fun _ => .bl true) ?_ ⟨m05.1, by omega⟩ (fun x => rfl) (fun i H1 e hi => et_yes) (fun i H1 e hi _ => ?_)
      · rw [← em2]
        exact ea_cons (ev_most ev_c (ev_least (ev_lenSq (ev_var rfl) S5) ev_c)) ea_nil
      · exact fun H7 e7 Q7 q => ⟨_, rfl, _, rfl, a, ns, (i : Int), rfl, ex_l (e.trans e7) S5, many, by omega, by omega, fun p H8 hp e8 S8 =>
          ⟨p, rfl, S8, fun H9 b9 => q H9 fun b o hb => b9 _ _ (ne_of_none hb hp) (e8 _ _ hb)⟩⟩
    · have e9 : ∀ m : Nat, (List.replicate m true).all id = true := fun m => by simp
      rw [e9]
      exact k H6
end
end Tv

namespace Tv
open PySem PySem.Spec PyProof.Rows L2 Evl
theorem gather {l : PySem.W.OpenLaw} {w : World} {K : PySem.W.Frag} {h : Heap} {mg : Str → Option Value} {fa : Addr} (KZ : K.In h) (gl : h.Ns mainGlobals mg) (named : mg "law" = some (.ref fa))
    {f0 : Addr} {od0 an0 : Option Addr} {sl0 : Array (Option Value)} {oc0 kV0 dc0 pm0 cd0 ct0 : Value}
    (a0 : PySem.W.nsIn K mainGlobals "is_integer" = some (some (.ref f0)))
    (l0 : K.lookup f0 = some ⟨oc0, od0, .func (PySem.W.fnOf "is_integer" "is_integer" (defArgs sis_integer) (defBody sis_integer) (defScope sis_integer) .none kV0 dc0 pm0 an0 cd0 ct0), sl0⟩)
    (c0 : PySem.W.codeIn K cd0 "is_integer" = true)
    (k0 : PySem.W.keepIn K (.ref f0) = true)
    {f1 : Addr} {od1 an1 : Option Addr} {sl1 : Array (Option Value)} {oc1 kV1 dc1 pm1 cd1 ct1 : Value}
    (a1 : PySem.W.nsIn K mainGlobals "is_order" = some (some (.ref f1)))
    (l1 : K.lookup f1 = some ⟨oc1, od1, .func (PySem.W.fnOf "is_order" "is_order" (defArgs sis_order) (defBody sis_order) (defScope sis_order) .none kV1 dc1 pm1 an1 cd1 ct1), sl1⟩)
    (c1 : PySem.W.codeIn K cd1 "is_order" = true)
    (k1 : PySem.W.keepIn K (.ref f1) = true)
    {f2 : Addr} {od2 an2 : Option Addr} {sl2 : Array (Option Value)} {oc2 kV2 dc2 pm2 cd2 ct2 : Value}
    (a2 : PySem.W.nsIn K mainGlobals "is_table" = some (some (.ref f2)))
    (l2 : K.lookup f2 = some ⟨oc2, od2, .func (PySem.W.fnOf "is_table" "is_table" (defArgs sis_table) (defBody sis_table) (defScope sis_table) .none kV2 dc2 pm2 an2 cd2 ct2), sl2⟩)
    (c2 : PySem.W.codeIn K cd2 "is_table" = true)
    (k2 : PySem.W.keepIn K (.ref f2) = true)
    {f3 : Addr} {od3 an3 : Option Addr} {sl3 : Array (Option Value)} {oc3 kV3 dc3 pm3 cd3 ct3 : Value}
    (a3 : PySem.W.nsIn K mainGlobals "are_tables" = some (some (.ref f3)))
    (l3 : K.lookup f3 = some ⟨oc3, od3, .func (PySem.W.fnOf "are_tables" "are_tables" (defArgs sare_tables) (defBody sare_tables) (defScope sare_tables) .none kV3 dc3 pm3 an3 cd3 ct3), sl3⟩)
    (c3 : PySem.W.codeIn K cd3 "are_tables" = true)
    (k3 : PySem.W.keepIn K (.ref f3) = true)
    {f4 : Addr} {od4 an4 : Option Addr} {sl4 : Array (Option Value)} {oc4 kV4 dc4 pm4 cd4 ct4 : Value}
    (a4 : PySem.W.nsIn K mainGlobals "must_be_order" = some (some (.ref f4)))
    (l4 : K.lookup f4 = some ⟨oc4, od4, .func (PySem.W.fnOf "must_be_order" "must_be_order" (defArgs smust_be_order) (defBody smust_be_order) (defScope smust_be_order) .none kV4 dc4 pm4 an4 cd4 ct4), sl4⟩)
    (c4 : PySem.W.codeIn K cd4 "must_be_order" = true)
    (k4 : PySem.W.keepIn K (.ref f4) = true)
    {f5 : Addr} {od5 an5 : Option Addr} {sl5 : Array (Option Value)} {oc5 kV5 dc5 pm5 cd5 ct5 : Value}
    (a5 : PySem.W.nsIn K mainGlobals "must_be_table" = some (some (.ref f5)))
    (l5 : K.lookup f5 = some ⟨oc5, od5, .func (PySem.W.fnOf "must_be_table" "must_be_table" (defArgs smust_be_table) (defBody smust_be_table) (defScope smust_be_table) .none kV5 dc5 pm5 an5 cd5 ct5), sl5⟩)
    (c5 : PySem.W.codeIn K cd5 "must_be_table" = true)
    (k5 : PySem.W.keepIn K (.ref f5) = true)
    {f6 : Addr} {od6 an6 : Option Addr} {sl6 : Array (Option Value)} {oc6 kV6 dc6 pm6 cd6 ct6 : Value}
    (a6 : PySem.W.nsIn K mainGlobals "index_at" = some (some (.ref f6)))
    (l6 : K.lookup f6 = some ⟨oc6, od6, .func (PySem.W.fnOf "index_at" "index_at" (defArgs sindex_at) (defBody sindex_at) (defScope sindex_at) .none kV6 dc6 pm6 an6 cd6 ct6), sl6⟩)
    (c6 : PySem.W.codeIn K cd6 "index_at" = true)
    (k6 : PySem.W.keepIn K (.ref f6) = true)
    {f7 : Addr} {od7 an7 : Option Addr} {sl7 : Array (Option Value)} {oc7 kV7 dc7 pm7 cd7 ct7 : Value}
    (a7 : PySem.W.nsIn K mainGlobals "all_ways" = some (some (.ref f7)))
    (l7 : K.lookup f7 = some ⟨oc7, od7, .func (PySem.W.fnOf "all_ways" "all_ways" (defArgs sall_ways) (defBody sall_ways) (defScope sall_ways) .none kV7 dc7 pm7 an7 cd7 ct7), sl7⟩)
    (c7 : PySem.W.codeIn K cd7 "all_ways" = true)
    (k7 : PySem.W.keepIn K (.ref f7) = true)
    {f8 : Addr} {od8 an8 : Option Addr} {sl8 : Array (Option Value)} {oc8 kV8 dc8 pm8 cd8 ct8 : Value}
    (a8 : PySem.W.nsIn K mainGlobals "all_arguments" = some (some (.ref f8)))
    (l8 : K.lookup f8 = some ⟨oc8, od8, .func (PySem.W.fnOf "all_arguments" "all_arguments" (defArgs sall_arguments) (defBody sall_arguments) (defScope sall_arguments) .none kV8 dc8 pm8 an8 cd8 ct8), sl8⟩)
    (c8 : PySem.W.codeIn K cd8 "all_arguments" = true)
    (k8 : PySem.W.keepIn K (.ref f8) = true)
    {f9 : Addr} {od9 an9 : Option Addr} {sl9 : Array (Option Value)} {oc9 kV9 dc9 pm9 cd9 ct9 : Value}
    (a9 : PySem.W.nsIn K mainGlobals "places" = some (some (.ref f9)))
    (l9 : K.lookup f9 = some ⟨oc9, od9, .func (PySem.W.fnOf "places" "places" (defArgs splaces) (defBody splaces) (defScope splaces) .none kV9 dc9 pm9 an9 cd9 ct9), sl9⟩)
    (c9 : PySem.W.codeIn K cd9 "places" = true)
    (k9 : PySem.W.keepIn K (.ref f9) = true)
    {f10 : Addr} {od10 an10 : Option Addr} {sl10 : Array (Option Value)} {oc10 kV10 dc10 pm10 cd10 ct10 : Value}
    (a10 : PySem.W.nsIn K mainGlobals "renamed" = some (some (.ref f10)))
    (l10 : K.lookup f10 = some ⟨oc10, od10, .func (PySem.W.fnOf "renamed" "renamed" (defArgs srenamed) (defBody srenamed) (defScope srenamed) .none kV10 dc10 pm10 an10 cd10 ct10), sl10⟩)
    (c10 : PySem.W.codeIn K cd10 "renamed" = true)
    (k10 : PySem.W.keepIn K (.ref f10) = true)
    {f11 : Addr} {od11 an11 : Option Addr} {sl11 : Array (Option Value)} {oc11 kV11 dc11 pm11 cd11 ct11 : Value}
    (a11 : PySem.W.nsIn K mainGlobals "put_together" = some (some (.ref f11)))
    (l11 : K.lookup f11 = some ⟨oc11, od11, .func (PySem.W.fnOf "put_together" "put_together" (defArgs sput_together) (defBody sput_together) (defScope sput_together) .none kV11 dc11 pm11 an11 cd11 ct11), sl11⟩)
    (c11 : PySem.W.codeIn K cd11 "put_together" = true)
    (k11 : PySem.W.keepIn K (.ref f11) = true)
    {f12 : Addr} {od12 an12 : Option Addr} {sl12 : Array (Option Value)} {oc12 kV12 dc12 pm12 cd12 ct12 : Value}
    (a12 : PySem.W.nsIn K mainGlobals "turned_round" = some (some (.ref f12)))
    (l12 : K.lookup f12 = some ⟨oc12, od12, .func (PySem.W.fnOf "turned_round" "turned_round" (defArgs sturned_round) (defBody sturned_round) (defScope sturned_round) .none kV12 dc12 pm12 an12 cd12 ct12), sl12⟩)
    (c12 : PySem.W.codeIn K cd12 "turned_round" = true)
    (k12 : PySem.W.keepIn K (.ref f12) = true)
    {f13 : Addr} {od13 an13 : Option Addr} {sl13 : Array (Option Value)} {oc13 kV13 dc13 pm13 cd13 ct13 : Value}
    (a13 : PySem.W.nsIn K mainGlobals "_law_spring" = some (some (.ref f13)))
    (l13 : K.lookup f13 = some ⟨oc13, od13, .func (PySem.W.fnOf "_law_spring" "_law_spring" (defArgs slaw_spring) (defBody slaw_spring) (defScope slaw_spring) .none kV13 dc13 pm13 an13 cd13 ct13), sl13⟩)
    (c13 : PySem.W.codeIn K cd13 "_law_spring" = true)
    (k13 : PySem.W.keepIn K (.ref f13) = true)
    {f14 : Addr} {od14 an14 : Option Addr} {sl14 : Array (Option Value)} {oc14 kV14 dc14 pm14 cd14 ct14 : Value}
    (a14 : PySem.W.nsIn K mainGlobals "_law_draw" = some (some (.ref f14)))
    (l14 : K.lookup f14 = some ⟨oc14, od14, .func (PySem.W.fnOf "_law_draw" "_law_draw" (defArgs slaw_draw) (defBody slaw_draw) (defScope slaw_draw) .none kV14 dc14 pm14 an14 cd14 ct14), sl14⟩)
    (c14 : PySem.W.codeIn K cd14 "_law_draw" = true)
    (k14 : PySem.W.keepIn K (.ref f14) = true)
    {f15 : Addr} {od15 an15 : Option Addr} {sl15 : Array (Option Value)} {oc15 kV15 dc15 pm15 cd15 ct15 : Value}
    (a15 : PySem.W.nsIn K mainGlobals "_law_of" = some (some (.ref f15)))
    (l15 : K.lookup f15 = some ⟨oc15, od15, .func (PySem.W.fnOf "_law_of" "_law_of" (defArgs slaw_of) (defBody slaw_of) (defScope slaw_of) .none kV15 dc15 pm15 an15 cd15 ct15), sl15⟩)
    (c15 : PySem.W.codeIn K cd15 "_law_of" = true)
    (k15 : PySem.W.keepIn K (.ref f15) = true)
    {f16 : Addr} {od16 an16 : Option Addr} {sl16 : Array (Option Value)} {oc16 kV16 dc16 pm16 cd16 ct16 : Value}
    (a16 : PySem.W.nsIn K mainGlobals "_law_tuples" = some (some (.ref f16)))
    (l16 : K.lookup f16 = some ⟨oc16, od16, .func (PySem.W.fnOf "_law_tuples" "_law_tuples" (defArgs slaw_tuples) (defBody slaw_tuples) (defScope slaw_tuples) .none kV16 dc16 pm16 an16 cd16 ct16), sl16⟩)
    (c16 : PySem.W.codeIn K cd16 "_law_tuples" = true)
    (k16 : PySem.W.keepIn K (.ref f16) = true)
    {f17 : Addr} {od17 an17 : Option Addr} {sl17 : Array (Option Value)} {oc17 kV17 dc17 pm17 cd17 ct17 : Value}
    (a17 : PySem.W.nsIn K mainGlobals "_law_at" = some (some (.ref f17)))
    (l17 : K.lookup f17 = some ⟨oc17, od17, .func (PySem.W.fnOf "_law_at" "_law_at" (defArgs slaw_at) (defBody slaw_at) (defScope slaw_at) .none kV17 dc17 pm17 an17 cd17 ct17), sl17⟩)
    (c17 : PySem.W.codeIn K cd17 "_law_at" = true)
    (k17 : PySem.W.keepIn K (.ref f17) = true)
    {f18 : Addr} {od18 an18 : Option Addr} {sl18 : Array (Option Value)} {oc18 kV18 dc18 pm18 cd18 ct18 : Value}
    (a18 : PySem.W.nsIn K mainGlobals "_law_places" = some (some (.ref f18)))
    (l18 : K.lookup f18 = some ⟨oc18, od18, .func (PySem.W.fnOf "_law_places" "_law_places" (defArgs slaw_places) (defBody slaw_places) (defScope slaw_places) .none kV18 dc18 pm18 an18 cd18 ct18), sl18⟩)
    (c18 : PySem.W.codeIn K cd18 "_law_places" = true)
    (k18 : PySem.W.keepIn K (.ref f18) = true)
    {f19 : Addr} {od19 an19 : Option Addr} {sl19 : Array (Option Value)} {oc19 kV19 dc19 pm19 cd19 ct19 : Value}
    (a19 : PySem.W.nsIn K mainGlobals "_law_table" = some (some (.ref f19)))
    (l19 : K.lookup f19 = some ⟨oc19, od19, .func (PySem.W.fnOf "_law_table" "_law_table" (defArgs slaw_table) (defBody slaw_table) (defScope slaw_table) .none kV19 dc19 pm19 an19 cd19 ct19), sl19⟩)
    (c19 : PySem.W.codeIn K cd19 "_law_table" = true)
    (k19 : PySem.W.keepIn K (.ref f19) = true)
    {f20 : Addr} {od20 an20 : Option Addr} {sl20 : Array (Option Value)} {oc20 kV20 dc20 pm20 cd20 ct20 : Value}
    (a20 : PySem.W.nsIn K mainGlobals "_law_put" = some (some (.ref f20)))
    (l20 : K.lookup f20 = some ⟨oc20, od20, .func (PySem.W.fnOf "_law_put" "_law_put" (defArgs slaw_put) (defBody slaw_put) (defScope slaw_put) .none kV20 dc20 pm20 an20 cd20 ct20), sl20⟩)
    (c20 : PySem.W.codeIn K cd20 "_law_put" = true)
    (k20 : PySem.W.keepIn K (.ref f20) = true)
    {f21 : Addr} {od21 an21 : Option Addr} {sl21 : Array (Option Value)} {oc21 kV21 dc21 pm21 cd21 ct21 : Value}
    (a21 : PySem.W.nsIn K mainGlobals "_law_order" = some (some (.ref f21)))
    (l21 : K.lookup f21 = some ⟨oc21, od21, .func (PySem.W.fnOf "_law_order" "_law_order" (defArgs slaw_order) (defBody slaw_order) (defScope slaw_order) .none kV21 dc21 pm21 an21 cd21 ct21), sl21⟩)
    (c21 : PySem.W.codeIn K cd21 "_law_order" = true)
    (k21 : PySem.W.keepIn K (.ref f21) = true)
    {f22 : Addr} {od22 an22 : Option Addr} {sl22 : Array (Option Value)} {oc22 kV22 dc22 pm22 cd22 ct22 : Value}
    (a22 : PySem.W.nsIn K mainGlobals "_law_back" = some (some (.ref f22)))
    (l22 : K.lookup f22 = some ⟨oc22, od22, .func (PySem.W.fnOf "_law_back" "_law_back" (defArgs slaw_back) (defBody slaw_back) (defScope slaw_back) .none kV22 dc22 pm22 an22 cd22 ct22), sl22⟩)
    (c22 : PySem.W.codeIn K cd22 "_law_back" = true)
    (k22 : PySem.W.keepIn K (.ref f22) = true)
    {f23 : Addr} {od23 an23 : Option Addr} {sl23 : Array (Option Value)} {oc23 kV23 dc23 pm23 cd23 ct23 : Value}
    (a23 : PySem.W.nsIn K mainGlobals "_law_right" = some (some (.ref f23)))
    (l23 : K.lookup f23 = some ⟨oc23, od23, .func (PySem.W.fnOf "_law_right" "_law_right" (defArgs slaw_right) (defBody slaw_right) (defScope slaw_right) .none kV23 dc23 pm23 an23 cd23 ct23), sl23⟩)
    (c23 : PySem.W.codeIn K cd23 "_law_right" = true)
    (k23 : PySem.W.keepIn K (.ref f23) = true)
    {f24 : Addr} {od24 an24 : Option Addr} {sl24 : Array (Option Value)} {oc24 kV24 dc24 pm24 cd24 ct24 : Value}
    (a24 : PySem.W.nsIn K mainGlobals "law" = some (some (.ref f24)))
    (l24 : K.lookup f24 = some ⟨oc24, od24, .func (PySem.W.fnOf "law" "law" (defArgs slaw) (defBody slaw) (defScope slaw) .none kV24 dc24 pm24 an24 cd24 ct24), sl24⟩)
    (c24 : PySem.W.codeIn K cd24 "law" = true)
    (k24 : PySem.W.keepIn K (.ref f24) = true)
    (z_len : PySem.W.nsIn K mainGlobals "len" = some none)
    (z_isinstance : PySem.W.nsIn K mainGlobals "isinstance" = some none)
    (z_all : PySem.W.nsIn K mainGlobals "all" = some none)
    (z_any : PySem.W.nsIn K mainGlobals "any" = some none)
    (z_abs : PySem.W.nsIn K mainGlobals "abs" = some none)
    (z_divmod : PySem.W.nsIn K mainGlobals "divmod" = some none)
    (z_repr : PySem.W.nsIn K mainGlobals "repr" = some none)
    (z_range : PySem.W.nsIn K mainGlobals "range" = some none)
    (z_max : PySem.W.nsIn K mainGlobals "max" = some none)
    (z_min : PySem.W.nsIn K mainGlobals "min" = some none)
    (z_int : PySem.W.nsIn K mainGlobals "int" = some none)
    (z_str : PySem.W.nsIn K mainGlobals "str" = some none)
    (z_bool : PySem.W.nsIn K mainGlobals "bool" = some none)
    (z_tuple : PySem.W.nsIn K mainGlobals "tuple" = some none)
    (z_set : PySem.W.nsIn K mainGlobals "set" = some none)
    (z_list : PySem.W.nsIn K mainGlobals "list" = some none)
    (z_sorted : PySem.W.nsIn K mainGlobals "sorted" = some none)
    (z_zip : PySem.W.nsIn K mainGlobals "zip" = some none)
    {aL : Addr} {t1 t2 t3 : Tok} {nL : Nat} {slL : Array (Option Value)} (aLens : PySem.W.nsIn K mainGlobals "LENGTHS" = some (some (.ref aL)))
    (lLens : K.lookup aL = some ⟨.type "tuple", none, .seq #[.int 3 t1, .int 9 t2, .int 27 t3] nL, slL⟩)
    : ∃ fd : FuncData, (∀ (s : Shared) (v : Value), BindsTo s fd ⟨[v], []⟩ [("script", v)]) ∧ ∀ base : Heap, K.In base → base.Ns mainGlobals mg → FnG l.prog w K mg base 6 fa fd ["script"] (spScript K) := by
  have e := named.symm.trans (PySem.W.mg_of KZ gl a24)
  cases e
  have B : Blt mg := ⟨PySem.W.mg_none_of KZ gl z_len, PySem.W.mg_none_of KZ gl z_isinstance, PySem.W.mg_none_of KZ gl z_all, PySem.W.mg_none_of KZ gl z_any, PySem.W.mg_none_of KZ gl z_abs, PySem.W.mg_none_of KZ gl z_divmod, PySem.W.mg_none_of KZ gl z_repr, PySem.W.mg_none_of KZ gl z_range, PySem.W.mg_none_of KZ gl z_max, PySem.W.mg_none_of KZ gl z_min, PySem.W.mg_none_of KZ gl z_int, PySem.W.mg_none_of KZ gl z_str, PySem.W.mg_none_of KZ gl z_bool, PySem.W.mg_none_of KZ gl z_tuple, PySem.W.mg_none_of KZ gl z_set⟩
  have B3 : Blt3 mg := ⟨PySem.W.mg_none_of KZ gl z_list, PySem.W.mg_none_of KZ gl z_sorted, PySem.W.mg_none_of KZ gl z_zip⟩
  have LL : Lens K mg aL := ⟨PySem.W.mg_of KZ gl aLens, _, _, _, lLens, rfl, rfl, rfl, by show 3 ≤ sizeLine; decide, .cons ⟨_, rfl⟩ (.cons ⟨_, rfl⟩ (.cons ⟨_, rfl⟩ .nil))⟩
  refine ⟨PySem.W.fnOf "law" "law" (defArgs slaw) (defBody slaw) (defScope slaw) .none kV24 dc24 pm24 an24 cd24 ct24, fun s v => .of_eq rfl, fun base _ _ => ?_⟩
  have F0 := fun_mk (st := sis_integer) l0 c0 k0
  have D0 : DefG l.prog w K mg base "is_integer" ["x"] 1 spIsInt :=
    ⟨f0, _, PySem.W.mg_of KZ gl a0, k0, F0.binds (ps := ["x"]) fun _ _ _ _ _ _ us hl => match us, hl with | [_], _ => rfl,
      ok_is_integer F0 B, fun s ws hl _ => match ws, hl with | [_], _ => .of_eq rfl⟩
  have F1 := fun_mk (st := sis_order) l1 c1 k1
  have D1 : DefG l.prog w K mg base "is_order" ["x", "count"] 2 spIsOrder :=
    ⟨f1, _, PySem.W.mg_of KZ gl a1, k1, F1.binds (ps := ["x", "count"]) fun _ _ _ _ _ _ us hl => match us, hl with | [_, _], _ => rfl,
      ok_is_order F1 B B3 D0, fun s ws hl _ => match ws, hl with | [_, _], _ => .of_eq rfl⟩
  have F2 := fun_mk (st := sis_table) l2 c2 k2
  have D2 : DefG l.prog w K mg base "is_table" ["x"] 1 spIsTable :=
    ⟨f2, _, PySem.W.mg_of KZ gl a2, k2, F2.binds (ps := ["x"]) fun _ _ _ _ _ _ us hl => match us, hl with | [_], _ => rfl,
      ok_is_table F2 B LL, fun s ws hl _ => match ws, hl with | [_], _ => .of_eq rfl⟩
  have F3 := fun_mk (st := sare_tables) l3 c3 k3
  have D3 : DefG l.prog w K mg base "are_tables" ["x", "count"] 2 spAreTables :=
    ⟨f3, _, PySem.W.mg_of KZ gl a3, k3, F3.binds (ps := ["x", "count"]) fun _ _ _ _ _ _ us hl => match us, hl with | [_, _], _ => rfl,
      ok_are_tables F3 B D2, fun s ws hl _ => match ws, hl with | [_, _], _ => .of_eq rfl⟩
  have F4 := fun_mk (st := smust_be_order) l4 c4 k4
  have D4 : DefG l.prog w K mg base "must_be_order" ["x", "count"] 3 spMustOrder :=
    ⟨f4, _, PySem.W.mg_of KZ gl a4, k4, F4.binds (ps := ["x", "count"]) fun _ _ _ _ _ _ us hl => match us, hl with | [_, _], _ => rfl,
      ok_must_be_order F4 D1, fun s ws hl _ => match ws, hl with | [_, _], _ => .of_eq rfl⟩
  have F5 := fun_mk (st := smust_be_table) l5 c5 k5
  have D5 : DefG l.prog w K mg base "must_be_table" ["x"] 2 spMust :=
    ⟨f5, _, PySem.W.mg_of KZ gl a5, k5, F5.binds (ps := ["x"]) fun _ _ _ _ _ _ us hl => match us, hl with | [_], _ => rfl,
      ok_must_be_table F5 D2, fun s ws hl _ => match ws, hl with | [_], _ => .of_eq rfl⟩
  have F6 := fun_mk (st := sindex_at) l6 c6 k6
  have D6 : DefG l.prog w K mg base "index_at" ["arguments"] 1 spIndexAt :=
    ⟨f6, _, PySem.W.mg_of KZ gl a6, k6, F6.binds (ps := ["arguments"]) fun _ _ _ _ _ _ us hl => match us, hl with | [_], _ => rfl,
      ok_index_at F6 , fun s ws hl _ => match ws, hl with | [_], _ => .of_eq rfl⟩
  have F7 := fun_mk (st := sall_ways) l7 c7 k7
  have D7 : DefG l.prog w K mg base "all_ways" ["lots"] 1 spWays :=
    ⟨f7, _, PySem.W.mg_of KZ gl a7, k7, F7.binds (ps := ["lots"]) fun _ _ _ _ _ _ us hl => match us, hl with | [_], _ => rfl,
      ok_all_ways F7 , fun s ws hl _ => match ws, hl with | [_], _ => .of_eq rfl⟩
  have F8 := fun_mk (st := sall_arguments) l8 c8 k8
  have D8 : DefG l.prog w K mg base "all_arguments" ["count"] 2 spAllArgs :=
    ⟨f8, _, PySem.W.mg_of KZ gl a8, k8, F8.binds (ps := ["count"]) fun _ _ _ _ _ _ us hl => match us, hl with | [_], _ => rfl,
      ok_all_arguments F8 D7, fun s ws hl _ => match ws, hl with | [_], _ => .of_eq rfl⟩
  have F9 := fun_mk (st := splaces) l9 c9 k9
  have D9 : DefG l.prog w K mg base "places" ["table"] 3 spPlaces :=
    ⟨f9, _, PySem.W.mg_of KZ gl a9, k9, F9.binds (ps := ["table"]) fun _ _ _ _ _ _ us hl => match us, hl with | [_], _ => rfl,
      ok_places F9 B LL D5, fun s ws hl _ => match ws, hl with | [_], _ => .of_eq rfl⟩
  have F10 := fun_mk (st := srenamed) l10 c10 k10
  have D10 : DefG l.prog w K mg base "renamed" ["table", "order"] 4 spRenamed :=
    ⟨f10, _, PySem.W.mg_of KZ gl a10, k10, F10.binds (ps := ["table", "order"]) fun _ _ _ _ _ _ us hl => match us, hl with | [_, _], _ => rfl,
      ok_renamed F10 B B3 D5 D9 D4 D8 D6, fun s ws hl _ => match ws, hl with | [_, _], _ => .of_eq rfl⟩
  have F11 := fun_mk (st := sput_together) l11 c11 k11
  have D11 : DefG l.prog w K mg base "put_together" ["table", "tables"] 4 spPut :=
    ⟨f11, _, PySem.W.mg_of KZ gl a11, k11, F11.binds (ps := ["table", "tables"]) fun _ _ _ _ _ _ us hl => match us, hl with | [_, _], _ => rfl,
      ok_put F11 B B3 D9 D3, fun s ws hl _ => match ws, hl with | [_, _], _ => .of_eq rfl⟩
  have F12 := fun_mk (st := sturned_round) l12 c12 k12
  have D12 : DefG l.prog w K mg base "turned_round" ["table", "places_order"] 4 spTurn :=
    ⟨f12, _, PySem.W.mg_of KZ gl a12, k12, F12.binds (ps := ["table", "places_order"]) fun _ _ _ _ _ _ us hl => match us, hl with | [_, _], _ => rfl,
      ok_turned F12 B D9 D4 D8 D6, fun s ws hl _ => match ws, hl with | [_, _], _ => .of_eq rfl⟩
  have F13 := fun_mk (st := slaw_spring) l13 c13 k13
  have D13 : DefG l.prog w K mg base "_law_spring" ["cells", "k"] 1 (spSpring K) :=
    ⟨f13, _, PySem.W.mg_of KZ gl a13, k13, F13.binds (ps := ["cells", "k"]) fun _ _ _ _ _ _ us hl => match us, hl with | [_, _], _ => rfl,
      ok_spring F13 B, fun s ws hl _ => match ws, hl with | [_, _], _ => .of_eq rfl⟩
  have F14 := fun_mk (st := slaw_draw) l14 c14 k14
  have D14 : DefG l.prog w K mg base "_law_draw" ["spring", "size"] 1 spDraw :=
    ⟨f14, _, PySem.W.mg_of KZ gl a14, k14, F14.binds (ps := ["spring", "size"]) fun _ _ _ _ _ _ us hl => match us, hl with | [_, _], _ => rfl,
      ok_draw F14 B, fun s ws hl _ => match ws, hl with | [_, _], _ => .of_eq rfl⟩
  have F15 := fun_mk (st := slaw_of) l15 c15 k15
  have D15 : DefG l.prog w K mg base "_law_of" ["spring", "menu"] 2 (spOf K) :=
    ⟨f15, _, PySem.W.mg_of KZ gl a15, k15, F15.binds (ps := ["spring", "menu"]) fun _ _ _ _ _ _ us hl => match us, hl with | [_, _], _ => rfl,
      ok_of F15 B D14, fun s ws hl _ => match ws, hl with | [_, _], _ => .of_eq rfl⟩
  have F16 := fun_mk (st := slaw_tuples) l16 c16 k16
  have D16 : DefG l.prog w K mg base "_law_tuples" ["size"] 1 spAllArgs :=
    ⟨f16, _, PySem.W.mg_of KZ gl a16, k16, F16.binds (ps := ["size"]) fun _ _ _ _ _ _ us hl => match us, hl with | [_], _ => rfl,
      ok_tuples F16 B, fun s ws hl _ => match ws, hl with | [_], _ => .of_eq rfl⟩
  have F17 := fun_mk (st := slaw_at) l17 c17 k17
  have D17 : DefG l.prog w K mg base "_law_at" ["sheet_now", "some"] 1 spValue :=
    ⟨f17, _, PySem.W.mg_of KZ gl a17, k17, F17.binds (ps := ["sheet_now", "some"]) fun _ _ _ _ _ _ us hl => match us, hl with | [_, _], _ => rfl,
      ok_at F17 B, fun s ws hl _ => match ws, hl with | [_, _], _ => .of_eq rfl⟩
  have F18 := fun_mk (st := slaw_places) l18 c18 k18
  have D18 : DefG l.prog w K mg base "_law_places" ["sheet_now"] 1 spPlaces :=
    ⟨f18, _, PySem.W.mg_of KZ gl a18, k18, F18.binds (ps := ["sheet_now"]) fun _ _ _ _ _ _ us hl => match us, hl with | [_], _ => rfl,
      ok_lplaces F18 B, fun s ws hl _ => match ws, hl with | [_], _ => .of_eq rfl⟩
  have F19 := fun_mk (st := slaw_table) l19 c19 k19
  have D19 : DefG l.prog w K mg base "_law_table" ["spring", "size"] 3 spTable :=
    ⟨f19, _, PySem.W.mg_of KZ gl a19, k19, F19.binds (ps := ["spring", "size"]) fun _ _ _ _ _ _ us hl => match us, hl with | [_, _], _ => rfl,
      ok_table F19 B D14 D15, fun s ws hl _ => match ws, hl with | [_, _], _ => .of_eq rfl⟩
  have F20 := fun_mk (st := slaw_put) l20 c20 k20
  have D20 : DefG l.prog w K mg base "_law_put" ["sheet_now", "some"] 2 spPut :=
    ⟨f20, _, PySem.W.mg_of KZ gl a20, k20, F20.binds (ps := ["sheet_now", "some"]) fun _ _ _ _ _ _ us hl => match us, hl with | [_, _], _ => rfl,
      ok_lput F20 B D16 D18 D17, fun s ws hl _ => match ws, hl with | [_, _], _ => .of_eq rfl⟩
  have F21 := fun_mk (st := slaw_order) l21 c21 k21
  have D21 : DefG l.prog w K mg base "_law_order" ["spring", "size"] 2 spOrder :=
    ⟨f21, _, PySem.W.mg_of KZ gl a21, k21, F21.binds (ps := ["spring", "size"]) fun _ _ _ _ _ _ us hl => match us, hl with | [_, _], _ => rfl,
      ok_lorder F21 B B3 D14, fun s ws hl _ => match ws, hl with | [_, _], _ => .of_eq rfl⟩
  have F22 := fun_mk (st := slaw_back) l22 c22 k22
  have D22 : DefG l.prog w K mg base "_law_back" ["order_now"] 1 spBack :=
    ⟨f22, _, PySem.W.mg_of KZ gl a22, k22, F22.binds (ps := ["order_now"]) fun _ _ _ _ _ _ us hl => match us, hl with | [_], _ => rfl,
      ok_lback F22 B, fun s ws hl _ => match ws, hl with | [_], _ => .of_eq rfl⟩
  have F23 := fun_mk (st := slaw_right) l23 c23 k23
  have D23 : DefG l.prog w K mg base "_law_right" ["spring"] 5 spRight :=
    ⟨f23, _, PySem.W.mg_of KZ gl a23, k23, F23.binds (ps := ["spring"]) fun _ _ _ _ _ _ us hl => match us, hl with | [_], _ => rfl,
      ok_right F23 B D15 D14 D19 D16 D17 D20 D21 D22 D11 D12 D10, fun s ws hl _ => match ws, hl with | [_], _ => .of_eq rfl⟩
  have F24 := fun_mk (st := slaw) l24 c24 k24
  exact ok_law F24 B D11 D12 D10 D13 D23
end Tv
open PySem PySem.W PyProof.Rows
set_option maxRecDepth 100000 in
set_option maxHeartbeats 0 in
theorem PySem.Challenge.cw_threevalues_k03_whole_tables_put_togethe_holds : PySem.Challenge.rw_threevalues_k03_whole_tables_put_togethe.Holds := by
  w_on; o_law; k_head; (case hw => w_witness2)
  k_fill
  refine Tv.ends (x := "script") (l := PySem.Challenge.rw_threevalues_k03_whole_tables_put_togethe) (lev := 6) (sp := Tv.spScript) rfl rfl ⟨rfl, by decide, by decide⟩ (fun w h Y => PySem.W.kIn_of Y) ?F fun K T r is few S => ⟨r, is, rfl, S, few, fun _ => rfl⟩
  case F =>
    intro w mg fa h KX G hmg
    refine' Tv.gather KX G hmg ?a0 ?l0 ?c0 ?k0 ?a1 ?l1 ?c1 ?k1 ?a2 ?l2 ?c2 ?k2 ?a3 ?l3 ?c3 ?k3 ?a4 ?l4 ?c4 ?k4 ?a5 ?l5 ?c5 ?k5 ?a6 ?l6 ?c6 ?k6 ?a7 ?l7 ?c7 ?k7 ?a8 ?l8 ?c8 ?k8 ?a9 ?l9 ?c9 ?k9 ?a10 ?l10 ?c10 ?k10 ?a11 ?l11 ?c11 ?k11 ?a12 ?l12 ?c12 ?k12 ?a13 ?l13 ?c13 ?k13 ?a14 ?l14 ?c14 ?k14 ?a15 ?l15 ?c15 ?k15 ?a16 ?l16 ?c16 ?k16 ?a17 ?l17 ?c17 ?k17 ?a18 ?l18 ?c18 ?k18 ?a19 ?l19 ?c19 ?k19 ?a20 ?l20 ?c20 ?k20 ?a21 ?l21 ?c21 ?k21 ?a22 ?l22 ?c22 ?k22 ?a23 ?l23 ?c23 ?k23 ?a24 ?l24 ?c24 ?k24 ?z_len ?z_isinstance ?z_all ?z_any ?z_abs ?z_divmod ?z_repr ?z_range ?z_max ?z_min ?z_int ?z_str ?z_bool ?z_tuple ?z_set ?z_list ?z_sorted ?z_zip ?aLens ?lLens
    (case a0 => k_is); (case l0 => k_is); (case c0 => k_is); (case k0 => k_is)
    (case a1 => k_is); (case l1 => k_is); (case c1 => k_is); (case k1 => k_is)
    (case a2 => k_is); (case l2 => k_is); (case c2 => k_is); (case k2 => k_is)
    (case a3 => k_is); (case l3 => k_is); (case c3 => k_is); (case k3 => k_is)
    (case a4 => k_is); (case l4 => k_is); (case c4 => k_is); (case k4 => k_is)
    (case a5 => k_is); (case l5 => k_is); (case c5 => k_is); (case k5 => k_is)
    (case a6 => k_is); (case l6 => k_is); (case c6 => k_is); (case k6 => k_is)
    (case a7 => k_is); (case l7 => k_is); (case c7 => k_is); (case k7 => k_is)
    (case a8 => k_is); (case l8 => k_is); (case c8 => k_is); (case k8 => k_is)
    (case a9 => k_is); (case l9 => k_is); (case c9 => k_is); (case k9 => k_is)
    (case a10 => k_is); (case l10 => k_is); (case c10 => k_is); (case k10 => k_is)
    (case a11 => k_is); (case l11 => k_is); (case c11 => k_is); (case k11 => k_is)
    (case a12 => k_is); (case l12 => k_is); (case c12 => k_is); (case k12 => k_is)
    (case a13 => k_is); (case l13 => k_is); (case c13 => k_is); (case k13 => k_is)
    (case a14 => k_is); (case l14 => k_is); (case c14 => k_is); (case k14 => k_is)
    (case a15 => k_is); (case l15 => k_is); (case c15 => k_is); (case k15 => k_is)
    (case a16 => k_is); (case l16 => k_is); (case c16 => k_is); (case k16 => k_is)
    (case a17 => k_is); (case l17 => k_is); (case c17 => k_is); (case k17 => k_is)
    (case a18 => k_is); (case l18 => k_is); (case c18 => k_is); (case k18 => k_is)
    (case a19 => k_is); (case l19 => k_is); (case c19 => k_is); (case k19 => k_is)
    (case a20 => k_is); (case l20 => k_is); (case c20 => k_is); (case k20 => k_is)
    (case a21 => k_is); (case l21 => k_is); (case c21 => k_is); (case k21 => k_is)
    (case a22 => k_is); (case l22 => k_is); (case c22 => k_is); (case k22 => k_is)
    (case a23 => k_is); (case l23 => k_is); (case c23 => k_is); (case k23 => k_is)
    (case a24 => k_is); (case l24 => k_is); (case c24 => k_is); (case k24 => k_is)
    (case z_len => k_is); (case z_isinstance => k_is); (case z_all => k_is); (case z_any => k_is)
    (case z_abs => k_is); (case z_divmod => k_is); (case z_repr => k_is); (case z_range => k_is)
    (case z_max => k_is); (case z_min => k_is); (case z_int => k_is); (case z_str => k_is)
    (case z_bool => k_is); (case z_tuple => k_is); (case z_set => k_is); (case z_list => k_is)
    (case z_sorted => k_is); (case z_zip => k_is); (case aLens => k_is); (case lLens => k_is)

