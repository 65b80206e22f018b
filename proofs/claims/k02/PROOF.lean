import PyProof.Rows.All
import Wide.All
import OpenK.AllK
import Wide.FinOn
import HandS.ForMost
import HandS.Evl
import HandS.IsInst
import HandS.Strs
import HandS.TupMul
import HandS.TupAny
import HandS.MakeKwOnly
import PyProof.ReprRoads
import PySem.Challenge.RW_threevalues_k02_whole_tables_read
set_option Elab.async false
set_option linter.all false
set_option maxRecDepth 100000
set_option maxHeartbeats 4000000
namespace Tv
open PySem PySem.Spec PyProof.Rows L2

/-! ### promises of defs, the repr guards told -/
structure FnG (P : Program) (w : World) (K : PySem.W.Frag) (mg : Str → Option Value)
    (base : Heap) (lev : Nat) (f : Addr) (fd : FuncData) (ps : List Str) (sp : Sp) : Prop where
  len : ∀ vs H Q E, sp vs H Q E → vs.length = ps.length
  run : ∀ (A : Around) (fr : List Env) (s : Shared) (H : Hp) (ar : Args) (us : List Value) (vs : List V)
    (Q : VK) (E : XK), Room lev A → A.guards = some [] → Env0 P w K mg base A fr s H →
    BindsTo s fd ar (ps.zip us) → Vals vs us → sp vs H Q E →
    codeAny (model P w) A (.call (.ref f) ar) (CR CX0 fr P w H s Q E) s

section
variable {P : Program} {w : World} {K : PySem.W.Frag} {mg : Str → Option Value} {base : Heap}

theorem FnG.of {lev : Nat} {f : Addr} {fd : FuncData} {ps : List Str} {sp : Sp}
    (F : FnOk P w K mg base CX0 lev f fd ps sp) : FnG P w K mg base lev f fd ps sp :=
  ⟨F.len, fun A fr s H ar us vs Q E r _ e b v z => F.run A fr s H ar us vs Q E r e b v z⟩

/-- a def of the text by its body's reading, the guards known in it -/
theorem fnG {qn name : Str} {st : Stmt} {f : Addr} {fd : FuncData} {N ps : List Str} {lev : Nat} {sp : Sp}
    (F : Fun K name qn st f fd) (S : FnScope N ps (defScope st))
    (len : ∀ vs H Q E, sp vs H Q E → vs.length = ps.length)
    (body : ∀ (cdv : Value) (A : Around) (fr : List Env) (s : Shared) (H : Hp) (vs : List V) (Q : VK) (E : XK),
      Room lev (A.deeper (envOfC qn (defScope st) s.heap.objs.size f cdv)) → A.guards = some [] →
      sp vs H Q E →
      ∃ t, PSs (cxOf CX0 P w K mg base N qn (defScope st) f cdv A fr s H E).nox (defBody st) t ∧
        t { nx := fun _ H' => Q .non H', rt := Q } (start N vs) H) :
    FnG P w K mg base (lev + 1) f fd ps sp := by
  obtain ⟨oc, od, kV, doc, pm, an, cdv, ct, osl, rfl, look, code⟩ := F.ex
  refine ⟨len, fun A fr s H ar us vs Q E room gd env bnd rel hsp => ?_⟩
  have many := len _ _ _ _ hsp
  have inK : K.In s.heap := env.mod.kin.keeps fun b o e => (env.bs b o e).1
  have nol : s.heap.NoLimit := env.mod.nolimit.keeps fun b o e => (env.bs b o e).1
  have kinds : ∀ y ∈ ps.zip us, (defScope st).names.lookup y.1 = some .local ∨
      ((defScope st).names.lookup y.1 = some .cell ∧
        ((cellsFrom (s.heap.objs.size + 1) (defScope st).names []).lookup y.1).isSome = true) := by
    rintro ⟨n, v⟩ hy
    rcases S.par n (List.of_mem_zip hy).1 with q | q
    · exact Or.inl q
    · exact Or.inr ⟨q, PySem.W.cellsFrom_some _ _ _ (Or.inl q)⟩
  refine codeAny_call_function room.depth
    (inK _ _ look) rfl S.co S.gen rfl (PySem.W.codeRec_of inK code) (bnd _ _ _ _ ?_)
  refine wpAny_newFunctionEnv_cells S.kind kinds
    fun en same s1 x => ?_
  subst same
  refine ⟨nol.keeps x.toInCall.keep, codeAny_func ?_⟩
  obtain ⟨t, der, rd⟩ := body cdv A fr s H vs Q E (room.deeper _) gd hsp
  have J := inv_start (CX := CX0) (P := P) (w := w) (K := K) (mg := mg) (base := base) (N := N) (E := E)
    S room.hd env many rel x
  refine wpAny_mono (der.nox.run [] s1 (start N vs) H _ J rd)
    (fun fl s' hs => ?_) fun e s' hs => hs
  cases fl with
  | ret u =>
    obtain ⟨v, σ', H', I', rv, q⟩ := hs
    exact ⟨v, H', I'.os, I'.bare, I'.base, I'.hok, rv, q⟩
  | next =>
    obtain ⟨σ', H', I', q⟩ := hs
    exact ⟨V.non, H', I'.os, I'.bare, I'.base, I'.hok, rfl, q⟩
  | brk =>
    obtain ⟨_, _, _, q⟩ := hs
    exact q.elim
  | cont =>
    obtain ⟨_, _, _, q⟩ := hs
    exact q.elim

/-- a def as the callers use it: what its name holds, how it binds, its promise -/
structure DefG (P : Program) (w : World) (K : PySem.W.Frag) (mg : Str → Option Value) (base : Heap)
    (x : Str) (ps : List Str) (lev : Nat) (sp : Sp) : Prop where
  ex : ∃ (f : Addr) (fd : FuncData), mg x = some (.ref f) ∧ PySem.W.keepIn K (.ref f) = true ∧
    Binds K fd ps [] ∧ FnG P w K mg base lev f fd ps sp ∧
    (∀ (s : Shared) (ws : List Value), ws.length = ps.length → K.In s.heap →
      BindsTo s fd ⟨[], ps.reverse.zip ws⟩ (ps.zip ws.reverse))
theorem DefG.mono {x : Str} {ps : List Str} {a b : Nat} {sp : Sp} (D : DefG P w K mg base x ps a sp)
    (h : a ≤ b) : DefG P w K mg base x ps b sp := by
  obtain ⟨f, fd, h1, h2, h3, F, h5⟩ := D.ex
  exact ⟨f, fd, h1, h2, h3, ⟨F.len, fun A fr s H ar us vs Q E r => F.run A fr s H ar us vs Q E (r.mono h)⟩, h5⟩
end

section
variable {X : Cx} {lev : Nat} {ps : List Str} {sp : Sp} {x : Str} {p pos : Pos}
  {e : Expr} {es : List Expr} {t tk : TA} {kws : List Keyword}

theorem run_G {pins : List (Addr × Obj)} {σ : L2.St} {H : Hp} {s : Shared} {Q : VK} {us ws : List Value} {kw : List (Str × Value)}
    {vs : List V} {f : Addr} {fd : FuncData} (F : FnG X.prog X.w X.K X.mg X.base lev f fd ps sp)
    (hr : Room lev X.A) (hg : X.A.guards = some []) (I : Inv X pins σ H s) (hb : BindsTo s fd ⟨ws, kw⟩ (ps.zip us))
    (r : Vals vs us) (h : sp vs H Q E0) :
    wpAny (model X.prog X.w) X.A (call (.ref f) ws kw) (EP X pins σ Q) X.xe s := by
  refine wpAny_call (codeAny_mono (F.run X.A X.stack s H _ us vs Q E0 hr hg I.env0 hb r h) fun res s' got => ?_)
  cases res with
  | error e => exact got.elim
  | ok fl =>
    cases fl with
    | ret u => exact I.after got
    | next => exact got.elim
    | brk => exact got.elim
    | cont => exact got.elim

def tDef (sp : Sp) (t : TA) : TE := fun σ H Q => t σ H fun vs H1 => sp vs H1 Q E0
def tDefK (sp : Sp) (t : TA) : TE := fun σ H Q => t σ H fun zs H1 => sp zs.reverse H1 Q E0
/-- f(e, ..) -/
theorem pe_def (D : DefG X.prog X.w X.K X.mg X.base x ps lev sp) (hr : Room lev X.A)
    (hg : X.A.guards = some []) (hx : Gl X x := by rfl) (ha : PA X (e :: es) t)
    (hdb : (x == ("__debug__" : Str)) = false := by decide)
    (he : starEach (e :: es) X.env = (false, eval e X.env) :: starEach es X.env := by rfl)
    (hpl : (backTo pos (starEach es X.env)).any (·.1) = false := by rfl) :
    PE X (.Call (.Name x p) (e :: es) [] pos) (tDef sp t) := by
  obtain ⟨f, fd, hm, hk, hb, F, _⟩ := D.ex
  refine ⟨fun pins s σ H Q I h => ?_⟩
  refine wpAny_Call_Name_kw (ld_glob I hx hm ?_ hdb)
  refine PySem.W.callWith_K (h₀ := X.base) I.ok.mod.kin hk
    (thn (ha.run pos pins s σ H _ I h) fun us s1 ⟨vs, H1, J, r, q⟩ => ⟨J.kIn, ?_⟩) he hpl
  have many : us.length = ps.length := by rw [← r.length]; exact F.len _ _ _ _ q
  have bt := hb s1 us J.kIn (by rw [List.append_nil]; exact many)
  rw [List.append_nil] at bt
  exact run_G F hr hg J bt r q
/-- f() -/
theorem pe_def0 (D : DefG X.prog X.w X.K X.mg X.base x ps lev sp) (hr : Room lev X.A)
    (hg : X.A.guards = some []) (hx : Gl X x := by rfl)
    (hdb : (x == ("__debug__" : Str)) = false := by decide) :
    PE X (.Call (.Name x p) [] [] pos) (tDef sp tNil) := by
  obtain ⟨f, fd, hm, hk, hb, F, _⟩ := D.ex
  refine ⟨fun pins s σ H Q I h => ?_⟩
  refine wpAny_Call_Name_kw (ld_glob I hx hm ?_ hdb)
  refine PySem.W.callWith_K0 I.kIn hk ?_
  have many : ([] : List Value).length = ps.length := F.len _ _ _ _ h
  have bt := hb s [] I.kIn (by rw [List.append_nil]; exact many)
  rw [List.append_nil] at bt
  exact run_G (us := []) F hr hg I bt .nil h
theorem vals_rev : ∀ {vs : List V} {us : List Value}, Vals vs us → Vals vs.reverse us.reverse
  | _, _, .nil => .nil
  | _, _, .cons r t => by
    rw [List.reverse_cons, List.reverse_cons]
    exact (vals_rev t).append (.cons r .nil)
/-- f(b = .., a = ..): all by name, the last parameter first -/
theorem pe_defK (D : DefG X.prog X.w X.K X.mg X.base x ps lev sp) (hr : Room lev X.A)
    (hg : X.A.guards = some []) (hx : Gl X x := by rfl) (hkw : PK X kws tk)
    (hall : (backToKw pos (keywordEach kws X.env)).all (·.1.isSome) = true := by rfl)
    (hks : (backToKw pos (keywordEach kws X.env)).filterMap (·.1) = ps.reverse := by rfl)
    (hdb : (x == ("__debug__" : Str)) = false := by decide)
    (hpl : ((backTo pos (starEach [] X.env)).any (·.1) || (backToKw pos (keywordEach kws X.env)).any (·.1.isNone)) = false := by rfl) :
    PE X (.Call (.Name x p) [] kws pos) (tDefK sp tk) := by
  obtain ⟨f, fd, hm, hk, _, F, hkb⟩ := D.ex
  refine ⟨fun pins s σ H Q I h => ?_⟩
  refine wpAny_Call_Name_kw (ld_glob I hx hm ?_ hdb)
  refine PySem.W.callWith_KW0 (h₀ := X.base) I.ok.mod.kin hk hall ?_ hpl
  refine thn (hkw.run pos pins s σ H _ I h) fun ws s2 ⟨zs, H2, J, rz, q⟩ => ⟨J.kIn, ?_⟩
  rw [hks]
  have many : ws.length = ps.length := by
    rw [← rz.length, ← List.length_reverse]; exact F.len _ _ _ _ q
  have bt := hkb s2 ws many J.kIn
  exact run_G F hr hg J bt (vals_rev rz) q
end

/-! ### repr of a list or a tuple of data -/
def rRepr (K : PySem.W.Frag) : List V → Hp → VK → Prop := fun xs H Q => ∃ (a : Addr) (d : PyData), xs = [.ref a] ∧
  Dp K H (.ref a) d ∧ d.showable = true ∧ d.hasDict = false ∧ d.depth ≤ 20 ∧ d.shown.length ≤ sizeLine ∧ Q (.str d.shown) H
theorem cr_repr {X : Cx} {lev : Nat} (hr : Room lev X.A) (hg : X.A.guards = some []) : CallR X (.builtin "repr") (rRepr X.K) := by
  intro pins s σ H xs us Q I r h
  obtain ⟨a, d, rfl, dp, hs, hd, hdep, hz, q⟩ := h
  obtain ⟨u, rfl, rv⟩ := vals1 r
  obtain ⟨as, rd⟩ := Dp.reads I d _ u dp rv
  have hu := hr.units
  cases rv
  exact repr_of_reads' rd hs (fun z => by rw [hd] at z; cases z) hg (by omega) (fun _ _ e => e)
    (fun h' u tk k => ⟨.str _, H, I.kept k, ⟨_, rfl⟩, q⟩) hz
/-- the built-in names that the text uses -/
structure Blt (mg : Str → Option Value) : Prop where
  m_len : mg "len" = none
  m_isinstance : mg "isinstance" = none
  m_all : mg "all" = none
  m_any : mg "any" = none
  m_abs : mg "abs" = none
  m_divmod : mg "divmod" = none
  m_repr : mg "repr" = none
  m_range : mg "range" = none
  m_max : mg "max" = none
  m_min : mg "min" = none
  m_int : mg "int" = none
  m_str : mg "str" = none
  m_bool : mg "bool" = none
  m_tuple : mg "tuple" = none
  m_set : mg "set" = none
end Tv

namespace Tv
open PySem PySem.Spec PyProof.Rows L2

/-! ### set(text): its members and how many -/
/-- the distinct ones among some, in the order met -/
def dist : List Str → List Str
  | [] => []
  | x :: r => if (dist r).any (· == x) then dist r else x :: dist r
theorem dist_any (z : Str) : ∀ l : List Str, (dist l).any (· == z) = l.any (· == z)
  | [] => rfl
  | x :: r => by
    have ih := dist_any z r
    unfold dist
    by_cases h : (dist r).any (· == x) = true
    · rw [if_pos h, List.any_cons, ih]
      by_cases e : x = z
      · subst e
        rw [dist_any x r] at h
        rw [h, Bool.or_true]
      · have q : (x == z) = false := beq_eq_false_iff_ne.mpr e
        rw [q, Bool.false_or]
    · rw [if_neg h, List.any_cons, List.any_cons, ih]
theorem dist_le : ∀ l : List Str, (dist l).length ≤ l.length
  | [] => Nat.le_refl _
  | x :: r => by
    have ih := dist_le r
    unfold dist
    split
    · exact Nat.le_succ_of_le ih
    · exact Nat.succ_le_succ ih
/-- the signs of a text ahead of the i-th, the last one first -/
def seen (x : Str) (i : Nat) : List Str := ((x.cps.toList.take i).map fun c => (⟨#[c]⟩ : Str)).reverse
theorem seen_zero (x : Str) : seen x 0 = [] := rfl
theorem seen_succ {x : Str} {i c : Nat} (h : x.cps[i]? = some c) : seen x (i + 1) = ⟨#[c]⟩ :: seen x i := by
  unfold seen
  have h' : x.cps.toList[i]? = some c := by rw [Array.getElem?_toList]; exact h
  rw [List.take_succ, h']
  simp
theorem seen_len (x : Str) (i : Nat) : (seen x i).length ≤ i := by
  unfold seen
  simp
  omega

abbrev rawSet (led : Bool) : Obj := { cls := .type "set", dict := none, data := .set #[] 0 (.fresh 0 0 led) }
abbrev TextSet (P : Program) (w : World) (h : Heap) (a : Addr) (l : List Str) : Prop :=
  h.SetOf (PySem.strKind P w) a (fun z => (dist l).any (· == z)) (dist l).length

section
variable {P : Program} {w : World} {A : Around} {R : Result → Shared → Prop} {it : Addr}
  {G : Array GenState → Array GenState → Prop} {St : Nat → Shared → Prop} {x : Str}
theorem set_loop (W : WalksS P w A.in1 it [it] [it] G x.cps.size (SignAt x) St) (a : Addr) (ne : a ≠ it)
    (small : x.cps.size ≤ 1000) : ∀ (m i : Nat) (s : Shared), x.cps.size - i = m → i ≤ x.cps.size → St i s →
    TextSet P w s.heap a (seen x i) →
    (∀ s', Moved [a, it] G s s' → TextSet P w s'.heap a (seen x x.cps.size) → R (.ok (.ret .none)) s') →
    codeAny (model P w) A (.builtin "set.update.loop" ⟨[.ref a, .ref it], []⟩) R s := by
  have one : ∀ b ∈ [it], b ∈ [a, it] := fun b hb => List.mem_cons_of_mem _ hb
  have off : a ∉ [it] := fun z => ne (List.mem_singleton.mp z)
  have still : ∀ {s s' : Shared} {l : List Str}, Moved [it] G s s' → TextSet P w s.heap a l → TextSet P w s'.heap a l := by
    rintro s s' l mv ⟨o, es, ep, tb, ho, more⟩
    exact ⟨o, es, ep, tb, mv.heap a _ off ho, more⟩
  intro m
  induction m with
  | zero =>
    intro i s hm hi st S k
    obtain rfl : i = x.cps.size := by omega
    refine codeAny_builtin F.entry_set_update_loop ?_
    rw [Around.under_plainId F.plain_set_update_loop _]
    refine wpAny_bind (m := pyNext (.ref it)) (W.done s _ _ st fun s' mv => ?_)
    exact wpAny_pure (k s' (mv.mono one) (still mv S))
  | succ m ih =>
    intro i s hm hi st S k
    have lt : i < x.cps.size := by omega
    refine codeAny_builtin F.entry_set_update_loop ?_
    rw [Around.under_plainId F.plain_set_update_loop _]
    refine wpAny_bind (m := pyNext (.ref it)) (W.item i s _ _ lt st fun v s' hv st' mv => ?_)
    obtain ⟨c, t, hc, rfl⟩ := hv
    have S' := still mv S
    refine wpAny_bind (m := holding [Value.str ⟨#[c]⟩ t] (setAdd a (.str ⟨#[c]⟩ t))) (wpAny_holding ?_)
    unfold setAdd
    refine wpAny_holding (wpAny_bind ((PySem.strKind P w).pyHash (k := ⟨#[c]⟩) (strKind_is _ _ _ _) ?_))
    have few : (dist (seen x i)).length + 1 < scanBound := by
      have a1 := dist_le (seen x i)
      have a2 := seen_len x i
      unfold scanBound
      omega
    refine wpAny_setAddHashed_of (knd := PySem.strKind P w) (s := { s' with toks := s'.toks + 1 })
      (strKind_is _ _ _ _) rfl S' few fun h' sb S2 => ?_
    have S3 : TextSet P w h' a (seen x (i + 1)) := by
      rw [seen_succ hc]
      refine SetOf_congr S2 (fun z => ?_) ?_
      · show ((dist (seen x i)).any (· == z) || decide (z = ⟨#[c]⟩)) = (dist (⟨#[c]⟩ :: seen x i)).any (· == z)
        rw [dist_any, dist_any, List.any_cons, Bool.or_comm]
        by_cases e : z = ⟨#[c]⟩
        · subst e; simp
        · have q : ((⟨#[c]⟩ : Str) == z) = false := beq_eq_false_iff_ne.mpr fun y => e y.symm
          rw [q, decide_eq_false e]
      · show (if (dist (seen x i)).any (· == ⟨#[c]⟩) = true then _ else _) = _
        show _ = (if (dist (seen x i)).any (· == ⟨#[c]⟩) = true then dist (seen x i) else ⟨#[c]⟩ :: dist (seen x i)).length
        split <;> rfl
    refine wpAny_pure ⟨plainId_quiet F.plain_set_update_loop _, ih (i + 1) _ (by omega) lt
      (W.frame _ s' _ _ st' (Nat.le_succ _) fun b hb o e => ?_) S3 fun s2 mv2 S4 => ?_⟩
    · rw [sb.2 b (fun z : b = a => off (z ▸ hb))]; exact e
    · refine k s2 (Moved.trans W.gtrans ((mv.mono one).then_heap (Nat.le_succ _) fun b o hb e => ?_) mv2) S4
      rw [sb.2 b (fun z : b = a => hb (by rw [z]; exact List.mem_cons_self))]; exact e
end

section
variable {P : Program} {w : World} {A : Around} {E : Value → Shared → Prop} {s : Shared}
theorem call_set_text {x : Str} {t : Tok} {Q : Value → Shared → Prop} (hh : A.handled = none) (small : x.cps.size ≤ 1000)
    (h : ∀ (h' : Heap) (tk : Nat), TextSet P w h' s.heap.objs.size (seen x x.cps.size) →
      (∀ b o, b < s.heap.objs.size → s.heap.get? b = some o → h'.get? b = some o) →
      Q (.ref s.heap.objs.size) { s with heap := h', toks := tk }) :
    wpAny (model P w) A (call (.type "set") [.str x t]) Q E s := by
  obtain ⟨c, tl, hmro⟩ := PySem.F.called_set.mro
  have made := PySem.F.called_set.made
  have sub := PySem.F.called_set.sub
  refine wpAny_call (codeAny_of_tree ?_)
  show wpAny _ _ (callAny (.type "set") _) _ _ _
  refine wpAny_pure ⟨Code.quiet_builtin _ (by decide +kernel),
    codeAny_builtin PySem.F.entry_type_call ?_⟩
  rw [Around.under_plain (weight_type_call_type "set" [.str x t] []) rfl]
  have n1 := PySem.F.called_set.notType
  have n2 := PySem.F.called_set.canCreate
  have tc := PySem.F.typeCall_set_1 (.str x t)
  repeat (any_goals (first | assumption | wp_step))
  refine codeAny_mono (code_set_new_1 (.str x t) (E := E) (Q₁ := fun obj s₁ => ∃ led : Bool,
    obj = .ref s.heap.objs.size ∧ s₁ = { s with heap := s.heap.push (rawSet led) }) fun led => ⟨led, rfl, rfl⟩) fun r s₁ got => ?_
  cases r with
  | error e => exact got
  | ok fl =>
    cases fl with
    | ret obj =>
      obtain ⟨led, rfl, rfl⟩ := got
      have at0 : (s.heap.push (rawSet led)).get? s.heap.objs.size = some (rawSet led) := Heap.get?_push_size _ rfl
      have ty : Shared.TypeIs { s with heap := s.heap.push (rawSet led) } (.ref s.heap.objs.size) "set" := ⟨_, at0, rfl⟩
      have l1 := PySem.F.called_set.init.lookup
      have l2 := PySem.F.called_set.init.bind (.ref s.heap.objs.size)
      repeat (any_goals (first | assumption | wp_step))
      refine codeAny_mono (codeAny_call_builtin (R := wants (fun r s₂ => r = .none ∧ ∃ h' tk,
          s₂ = { s with heap := h', toks := tk } ∧ TextSet P w h' s.heap.objs.size (seen x x.cps.size) ∧
          (∀ b o, b < s.heap.objs.size → s.heap.get? b = some o → h'.get? b = some o)) E)
        PySem.F.called_set.init.plain PySem.F.entry_set_init (check_set_init_1 ty ?_)) fun r₂ s₂ got₂ => ?_
      · have u1 : (Value.type "str" == Value.type "dict") = false := by decide
        have u2 := PySem.F.sub_str_set
        have u3 := PySem.F.sub_str_frozenset
        unfold Builtin.«set.__init__» noKeywords Builtin.Frozenset.updateFrom
        generalize hPI : pyIter = PI
        wp_walk
        subst hPI
        refine wpAny_pyIter_str (s := { s with heap := s.heap.push (rawSet led) }) fun o St walks st0 => ?_
        refine wpAny_bind (wpAny_runValue ?_)
        have h3 : A.in1.in1.in1.handled = none := by simp [hh]
        have ne : s.heap.objs.size ≠ (s.heap.push (rawSet led)).objs.size := by
          rw [Heap.size_push]; exact Nat.ne_of_lt (Nat.lt_succ_self _)
        refine set_loop ((walks _ h3).toS) s.heap.objs.size ne small (x.cps.size - 0) 0 _ (by omega) (Nat.zero_le _) st0 ?S0 ?R0
        case S0 =>
          have g0 : ((s.heap.push (rawSet led)).push o).get? s.heap.objs.size = some (rawSet led) := Heap.get?_push_of_some _ at0
          exact SetOf_congr ((setObjOf_fresh (knd := PySem.strKind P w) led).setOf g0 (by unfold scanBound; omega)) (fun _ => rfl) rfl
        case R0 =>
          intro s' mv S'
          obtain ⟨h', g', d', tk', os'⟩ := s'
          have e1 : g' = s.gens := mv.gens
          have e2 : d' = s.drawn := mv.drawn
          have e3 : os' = s.os := mv.os
          subst e1 e2 e3
          refine wpAny_pure ?_
          refine wpAny_pure (a := Fin.done (.ret Value.none)) ⟨rfl, h', tk', rfl, S', fun b o' hb e => ?_⟩
          refine mv.heap b o' (fun z => ?_) (Heap.get?_push_of_some _ (Heap.get?_push_of_some _ e))
          rcases List.mem_cons.mp z with z | z
          · exact Nat.ne_of_lt hb z
          · have z' := List.mem_singleton.mp z
            have z2 : (s.heap.push (rawSet led)).objs.size = s.heap.objs.size + 1 := Heap.size_push ..
            rw [z2] at z'
            exact Nat.ne_of_lt (Nat.lt_succ_of_lt hb) z'
      · cases r₂ with
        | error e => exact got₂
        | ok fl₂ =>
          cases fl₂ with
          | ret r =>
            obtain ⟨rfl, h', tk, rfl, S', k'⟩ := got₂
            repeat (any_goals (first | assumption | wp_step))
            exact h _ _ S' k'
          | _ => exact got₂.elim
    | _ => exact got.elim
end

/-! ### len(set(e)), e a text -/
def tLenSetS (te : TE) : TE := fun σ H Q => te σ H fun v H1 => ∃ x : Str, v = .str x ∧ x.cps.size ≤ 1000 ∧
  Q (.int (dist (seen x x.cps.size)).length) H1
theorem pe_lenSetS {X : Cx} {a : Expr} {te : TE} {p p2 q pos : Pos} (hc : X.calm = true) (hg : Gl X "len") (hm : X.mg "len" = none)
    (hg2 : Gl X "set") (hm2 : X.mg "set" = none) (ha : PE X a te)
    (na : starEach [a] X.env = (false, eval a X.env) :: starEach [] X.env := by rfl) :
    PE X (.Call (.Name "len" p) [.Call (.Name "set" p2) [a] [] q] [] pos) (tLenSetS te) := by
  refine ⟨fun pins s σ H Q I h => Call_ (ld_blt I hg hm boot_len ?_)⟩
  refine callWith_builtin1 (args_cons (Call_ (ld_blt I hg2 hm2 boot_set ?_)) rfl) rfl rfl
  refine callWith_type1 (args_cons (thn (ha.run pins s σ H _ I h) fun v s1 ⟨x, H1, J, r1, q1⟩ => args_nil ?_) na) na rfl
  obtain ⟨x, rfl, small, q1⟩ := q1
  obtain ⟨t, rfl⟩ := r1
  refine call_set_text (J.ok.hd hc) small fun h' tk S kept => args_nil ?_
  obtain ⟨o, es, ep, tb, ho, hex, hd, _, _, _, hf, hn⟩ := S
  have J2 : Inv X pins σ H1 { s1 with heap := h', toks := tk } := J.kept fun b o e => kept b o (Heap.lt_size e) e
  have few : es.size ≤ 1000 := by
    have a1 := dist_le (seen x x.cps.size)
    have a2 := seen_len x x.cps.size
    omega
  exact call_len_set ho hex hd hf (by omega) ⟨.int _, H1, J2.tok _, ⟨_, by rw [hn]⟩, q1⟩

/-! ### s[a:b:c], a text, c above nought -/
def tSl3 (te tl tu ts : TE) : TE := fun σ H Q => te σ H fun v H1 => tl σ H1 fun a H2 => tu σ H2 fun b H3 => ts σ H3 fun c H4 =>
  ∃ (x : Str) (i j k : Int), v = .str x ∧ a = .int i ∧ b = .int j ∧ c = .int k ∧ 0 < k ∧ x.length ≤ sizeLine ∧
    Q (.str (Txt.sliceBy x (some (i, 0)) (some (j, 0)) (k, 0))) H4
theorem sliceBy_tok (x : Str) (i j k : Int) (t1 t2 t3 : Tok) : Txt.sliceBy x (some (i, t1)) (some (j, t2)) (k, t3) = Txt.sliceBy x (some (i, 0)) (some (j, 0)) (k, 0) := rfl
theorem pe_slice3 {X : Cx} {e lo hi st : Expr} {te tl tu ts : TE} {p2 pos : Pos} (he : PE X e te) (hl : PE X lo tl) (hu : PE X hi tu) (hs : PE X st ts) :
    PE X (.Subscript e (.Slice (some lo) (some hi) (some st) p2) pos) (tSl3 te tl tu ts) := by
  refine ⟨fun pins s σ H Q I h => ?_⟩
  refine Subscript_ (thn (he.run pins s σ H _ I h) fun v s1 ⟨x, H1, I1, r1, q1⟩ => ?_)
  refine wpAny_Slice ?_
  rw [evalPart_some]
  refine thn (hl.run pins s1 σ H1 _ I1 q1) fun vl s2 ⟨a, H2, I2, r2, q2⟩ => ?_
  rw [evalPart_some]
  refine thn (hu.run pins s2 σ H2 _ I2 q2) fun vu s3 ⟨b, H3, I3, r3, q3⟩ => ?_
  rw [evalPart_some]
  refine thn (hs.run pins s3 σ H3 _ I3 q3) fun vs s4 ⟨c, H4, I4, r4, q4⟩ => ?_
  obtain ⟨y, i, j, k, rfl, rfl, rfl, rfl, pos, z, q⟩ := q4
  obtain ⟨t0, rfl⟩ := r1
  obtain ⟨t1, rfl⟩ := r2
  obtain ⟨t2, rfl⟩ := r3
  obtain ⟨t3, rfl⟩ := r4
  have J : Inv X pins σ H4 { s4 with heap := s4.heap.push { cls := .type "slice", data := .fields #[.int i t1, .int j t2, .int k t3] } } :=
    I4.kept (t' := s4.toks) fun b ob q => Heap.get?_push_of_some _ q
  have k0 : (k == 0) = false := beq_eq_false_iff_ne.mpr (by omega)
  refine tail_any (ops := [.ref s4.heap.objs.size, .str y t0]) (typeIs_str _ _ _) F.slot_str_getitem.lookup ?_ (by with_unfolding_all rfl)
  refine wpAny_getItem_str_slice (l := some (i, t1)) (u := some (j, t2)) (st := some (k, t3)) ⟨_, Heap.get?_push_size _ rfl, rfl, rfl⟩ k0 ?_
  refine post_val_or_str ⟨Nat.le_trans (Txt.sliceBy_le y (some (i, t1)) (some (j, t2)) (k, t3) (by show k ≠ 0; omega)) z, fun t' m => ?_⟩
  exact ⟨.str (Txt.sliceBy y (some (i, 0)) (some (j, 0)) (k, 0)), H4, J.tok _, ⟨t', rfl⟩, q⟩

/-! ### t.index(x), t a tuple of flat items -/
def rIndexT (K : PySem.W.Frag) : V → List V → Hp → VK → Prop := fun x xs H Q => ∃ (a : Addr) (ys : List V) (y : V) (j : Nat) (z : V),
  x = V.ref a ∧ xs = [y] ∧ SqT K H a ys ∧ flatV y = true ∧ ys.all flatV = true ∧ ys[j]? = some z ∧ eqV z y = true ∧
  (∀ (m : Nat) (z' : V), m < j → ys[m]? = some z' → eqV z' y = false) ∧ Q (.int (j : Nat)) H
theorem mt_indexT {X : Cx} : MtR X "tuple.index" (rIndexT X.K) := by
  intro pins s σ H x xs v us Q I rx rs h
  obtain ⟨a, ys, y, j, z, rfl, rfl, hT, fy, fys, hz, hit, hno, q⟩ := h
  cases rx
  obtain ⟨uy, rfl, ry⟩ := vals1 rs
  obtain ⟨its, rv, ⟨⟨cls, dd, dat, sl⟩, ho, hc, n, hd⟩, _⟩ := I.tuple hT
  simp only at hc hd
  subst hc hd
  have many := rv.length
  have at1 : ∀ (m : Nat) (hm : m < its.toArray.size), ∃ y', ys[m]? = some y' ∧ RelV y' its.toArray[m] ∧ flatV y' = true := fun m hm => by
    have hm' : m < ys.length := by rw [many]; simpa using hm
    have e1 : ys[m]? = some ys[m] := List.getElem?_eq_getElem hm'
    obtain ⟨u, hu, ru⟩ := rv.get e1
    obtain ⟨_, e2⟩ := List.getElem?_eq_some_iff.mp hu
    have e3 : its.toArray[m] = u := by simpa using e2
    exact ⟨_, e1, by rw [e3]; exact ru, flat_at fys e1⟩
  have hj : j < its.toArray.size := by
    have := (List.getElem?_eq_some_iff.mp hz).1
    simp only [List.size_toArray]; omega
  refine call_meets PySem.F.slot_tuple_index ⟨_, ho, rfl⟩ PySem.F.entry_tuple_index (PySem.F.args_tuple_index_2 _ _)
    (TI.tuple_indexAt a its.toArray n dd sl uy (eqU y) j hj ?_ ?_)
    ⟨ho, fun u' hu' => mem_eqAt ry fy rv fys u' (by simpa using hu'), ⟨.int (j : Nat), H, I.tok _, ⟨_, rfl⟩, q⟩⟩
  · obtain ⟨y', e1, r1, f1⟩ := at1 j hj
    rw [hz] at e1
    cases e1
    rw [eqU_of r1 f1]
    exact hit
  · intro m hm hmj
    obtain ⟨y', e1, r1, f1⟩ := at1 m hm
    rw [eqU_of r1 f1]
    exact hno m _ hmj e1

/-! ### t * 1 -/
theorem tuple_mul_one (l : Addr) (items : Array Value) (n : Nat) (dd : Option Addr) (sl : Array (Option Value)) (u : Tok) :
    Meets (Builtin.«tuple.__mul__» ⟨[.ref l, .int 1 u], []⟩) (fun _ R s =>
      s.heap.get? l = some { cls := .type "tuple", dict := dd, data := .seq items n, slots := sl } ∧ R (.ok (.ret (.ref l))) s) :=
  .of_wp fun prog w A R s h => by
    obtain ⟨hp, g, d, tk, os⟩ := s
    obtain ⟨hl, h⟩ := h
    have f1 := AutoSeq1.idx_int
    wp_walk using AutoSeq1.wpAny_loadPart' hl
    exact ⟨_, rfl, h⟩
/-- t * k, from one on: by one it is t itself -/
def rRepK (K : PySem.W.Frag) : R2 := fun x y H Q => ∃ (l : Addr) (k : Int) (xs : List V), x = .ref l ∧ y = .int k ∧ SqT K H l xs ∧ xs ≠ [] ∧
  1 ≤ k ∧ k ≤ 1000 ∧ xs.length ≤ 1000 ∧ (k = 1 → Q (.ref l) H) ∧
  (k ≠ 1 → ∀ p, H p = none → Q (.ref p) (upd H p (.tup (List.replicate k.toNat xs).flatten)))
theorem op_repK {X : Cx} : OpR X (binaryOp .Mult) (rRepK X.K) := by
  intro pins s σ H x y v u Q I rx ry h
  obtain ⟨l, k, xs, rfl, rfl, hT, hne, k1, k2, hz, q1, q2⟩ := h
  by_cases one : k = 1
  · subst one
    cases rx
    obtain ⟨t, rfl⟩ := ry
    obtain ⟨its, r, ⟨⟨cls, dd, dat, sl⟩, ho, hc, n, hd⟩, hs⟩ := I.tuple hT
    simp only at hc hd
    subst hc hd
    exact wpAny_binaryOp_repeat_ref (T := "tuple") (U := "int") (by decide) ⟨_, ho, rfl⟩ (fun s' => typeIs_int s' 1 t)
      noFill_tuple_mul F.fills_int_mul F.slot_int_rmul repeat_tuple F.slot_int_index.lookup
      (call_meets F.slot_int_rmul (typeIs_int s 1 t) F.entry_int_rmul (F.args_int_rmul_2 _ _) (int_rmul_tuple 1 t l its.toArray n dd sl)
        ⟨ho, rfl, ⟨_, ho, rfl⟩, call_meets F.slot_tuple_mul ⟨_, ho, rfl⟩ F.entry_tuple_mul (F.args_tuple_mul_2 _ _)
          (tuple_mul_one l its.toArray n dd sl t) ⟨ho, ⟨.ref l, H, I, rfl, q1 rfl⟩⟩⟩)
  · exact op_repT pins s σ H (.ref l) (.int k) v u Q I rx ry ⟨l, k, xs, rfl, rfl, hT, hne, by omega, k2, hz, q2 one⟩
end Tv

namespace Tv
open PySem PySem.Spec PyProof.Rows L2

/-! ### tables as lists of digits -/
def tab (ds : List Nat) : Str := ⟨(ds.map (48 + ·)).toArray⟩
theorem tab_len (ds : List Nat) : (tab ds).length = ds.length := by
  show (ds.map (48 + ·)).toArray.size = _
  simp
theorem tab_cps (ds : List Nat) : (tab ds).cps.toList = ds.map (48 + ·) := by simp [tab]
theorem tab_size (ds : List Nat) : (tab ds).cps.size = ds.length := by simp [tab]
structure IsTab (ds : List Nat) (n : Nat) : Prop where
  n1 : 1 ≤ n
  n3 : n ≤ 3
  len : ds.length = 3 ^ n
  dig : ∀ d ∈ ds, d < 3
theorem IsTab.cases {ds : List Nat} {n : Nat} (T : IsTab ds n) : (n = 1 ∧ ds.length = 3) ∨ (n = 2 ∧ ds.length = 9) ∨ (n = 3 ∧ ds.length = 27) := by
  have := T.n1
  have := T.n3
  have e := T.len
  have h : n = 1 ∨ n = 2 ∨ n = 3 := by omega
  rcases h with rfl | rfl | rfl
  · exact Or.inl ⟨rfl, e⟩
  · exact Or.inr (Or.inl ⟨rfl, e⟩)
  · exact Or.inr (Or.inr ⟨rfl, e⟩)
theorem IsTab.small {ds : List Nat} {n : Nat} (T : IsTab ds n) : ds.length ≤ 27 := by
  rcases T.cases with ⟨_, e⟩ | ⟨_, e⟩ | ⟨_, e⟩ <;> omega
theorem IsTab.size {ds : List Nat} {n : Nat} (T : IsTab ds n) : (tab ds).length ≤ sizeLine := by
  rw [tab_len]
  exact Nat.le_trans T.small (by decide)
/-- numbers as values -/
def iv (as : List Nat) : List V := as.map fun (a : Nat) => V.int (a : Int)
theorem iv_at {as : List Nat} {i : Nat} {x : V} (h : (iv as)[i]? = some x) : ∃ a : Nat, as[i]? = some a ∧ x = .int (a : Int) := by
  unfold iv at h
  rw [List.getElem?_map] at h
  cases e : as[i]? with
  | none => rw [e] at h; cases h
  | some a => rw [e] at h; exact ⟨a, rfl, (Option.some.inj h).symm⟩
theorem iv_len (as : List Nat) : (iv as).length = as.length := by simp [iv]
theorem iv_get {as : List Nat} {i a : Nat} (h : as[i]? = some a) : (iv as)[i]? = some (.int (a : Int)) := by
  unfold iv
  rw [List.getElem?_map, h]
  rfl
/-- the number that arguments write with base 3 -/
def num (as : List Nat) : Nat := as.foldl (fun at_ x => 3 * at_ + x) 0
theorem num_snoc (as : List Nat) (x : Nat) : num (as ++ [x]) = 3 * num as + x := by simp [num]
theorem num_lt : ∀ (n : Nat) (as : List Nat), as.length = n → (∀ a ∈ as, a < 3) → num as < 3 ^ n
  | 0, as, h, _ => by
    obtain rfl := List.eq_nil_of_length_eq_zero h
    decide
  | n + 1, as, h, hd => by
    have ne : as ≠ [] := fun e => by rw [e] at h; cases h
    have e := List.dropLast_concat_getLast ne
    rw [← e, num_snoc]
    have ih := num_lt n as.dropLast (by rw [List.length_dropLast]; omega) fun a ha => hd a (List.dropLast_subset _ ha)
    have l := hd _ (List.getLast_mem ne)
    rw [Nat.pow_succ]
    omega
/-- all arguments for n places, in their order -/
def tups : Nat → List (List Nat)
  | 0 => [[]]
  | n + 1 => (tups n).flatMap fun r => [r ++ [0], r ++ [1], r ++ [2]]
theorem tups_ok : ∀ n, n ≤ 3 → (tups n).length = 3 ^ n ∧ ∀ i, i < (tups n).length → num ((tups n).getD i []) = i ∧ ((tups n).getD i []).length = n ∧ ((tups n).getD i []).all (· < 3) = true := by decide
/-- the value at some arguments -/
def val (ds as : List Nat) : Nat := ds.getD (num as) 0
theorem IsTab.at {ds as : List Nat} {n : Nat} (T : IsTab ds n) (h : as.length = n) (hd : ∀ a ∈ as, a < 3) : ds[num as]? = some (val ds as) ∧ val ds as < 3 := by
  have l := num_lt n as h hd
  rw [← T.len] at l
  have e : ds[num as]? = some ds[num as] := List.getElem?_eq_getElem l
  have e2 : val ds as = ds[num as] := by
    unfold val
    rw [List.getD_eq_getElem?_getD, e]
    rfl
  refine ⟨by rw [e, e2], ?_⟩
  rw [e2]
  exact T.dig _ (List.getElem_mem l)
theorem int_digit : ∀ d : Nat, d < 3 → PySem.intText? ⟨#[48 + d]⟩ = some (d : Int) := by
  intro d h
  have : d = 0 ∨ d = 1 ∨ d = 2 := by omega
  rcases this with rfl | rfl | rfl <;> decide +kernel
theorem str_digit : ∀ d : Nat, d < 3 → (toString (d : Int) : Str) = ⟨#[48 + d]⟩ := by
  intro d h
  have : d = 0 ∨ d = 1 ∨ d = 2 := by omega
  rcases this with rfl | rfl | rfl <;> decide +kernel

theorem yes_go {σ : L2.St} {H : Hp} {A B : Hp → Prop} (h : A H) : tYes σ H fun b H3 => if b = true then A H3 else B H3 := by
  show (if true = true then A H else B H)
  rw [if_pos rfl]
  exact h
theorem tab_sign {ds : List Nat} {n i c : Nat} (T : IsTab ds n) (h : (tab ds).cps[i]? = some c) : ∃ d, ds[i]? = some d ∧ d < 3 ∧ c = 48 + d := by
  rw [← Array.getElem?_toList, tab_cps, List.getElem?_map] at h
  cases e : ds[i]? with
  | none => rw [e] at h; cases h
  | some d => rw [e] at h; exact ⟨d, rfl, T.dig d (List.mem_of_getElem? e), (Option.some.inj h).symm⟩
/-- the reading of a comprehension over a text's signs -/
theorem lc_str {x : Str} {g : TG} {tt : TT} {te : TE} {vs : List Nat} {σ : L2.St} {H1 : Hp} {D : Addr} {Qd : Hp → Prop} (Pv : Nat → Hp → Prop)
    (h0 : Pv 0 (upd H1 D (.lst [])))
    (hs : ∀ i c H, x.cps[i]? = some c → Pv i H → g (.str ⟨#[c]⟩) (wipe σ vs) H fun σ2 H2 => wipe σ2 vs = wipe σ vs ∧ tt σ2 H2 fun b H3 =>
      if b = true then te σ2 H3 fun y H4 => ∃ acc, H4 D = some (.lst acc) ∧ acc.length < sizeLine ∧ Pv (i + 1) (upd H4 D (.lst (acc ++ [y]))) else Pv (i + 1) H3)
    (hd : ∀ H, Pv x.cps.size H → Qd H) :
    ∃ W : Nat → Nat → Hp → Prop, (∃ m, W 0 m (upd H1 D (.lst []))) ∧ ∀ i m H, W i m H →
      ((Its x).stop i H ∧ Qd H) ∨ ((Its x).go i H ∧ ∃ Nx : Hp → Prop, (∀ H', Nx H' → ∃ m', m' < m ∧ W (i + 1) m' H') ∧
        ∀ v H', (Its x).yld i H v H' → g v (wipe σ vs) H' fun σ2 H2 => wipe σ2 vs = wipe σ vs ∧ tt σ2 H2 fun b H3 =>
          if b = true then te σ2 H3 fun y H4 => ∃ acc, H4 D = some (.lst acc) ∧ acc.length < sizeLine ∧ Nx (upd H4 D (.lst (acc ++ [y]))) else Nx H3) := by
  refine ⟨fun i m H => m = x.cps.size - i ∧ i ≤ x.cps.size ∧ Pv i H, ⟨x.cps.size, by simp, Nat.zero_le _, h0⟩, ?_⟩
  rintro i m H ⟨rfl, le, p⟩
  by_cases lt : i < x.cps.size
  · refine Or.inr ⟨lt, Pv (i + 1), fun H' p' => ⟨x.cps.size - (i + 1), by omega, rfl, lt, p'⟩, ?_⟩
    rintro v H' ⟨rfl, c, hc, rfl⟩
    exact hs i c _ hc p
  · obtain rfl : i = x.cps.size := by omega
    exact Or.inl ⟨Nat.le_refl _, hd H p⟩
section
open Evl
variable {K : PySem.W.Frag} {σ : L2.St} {H : Hp} {te tl tu ts : TE}
theorem ev_lenset {x : Str} (h : Ev te σ H (.str x)) (small : x.cps.size ≤ 1000) : Ev (tLenSetS te) σ H (.int (dist (seen x x.cps.size)).length) :=
  fun H1 e Q q => h H1 e _ fun H2 e2 => ⟨x, rfl, small, q H2 e2⟩
theorem ev_sl3 {x : Str} {i j k : Int} (h : Ev te σ H (.str x)) (h1 : Ev tl σ H (.int i)) (h2 : Ev tu σ H (.int j)) (h3 : Ev ts σ H (.int k)) (pos : 0 < k) (z : x.length ≤ sizeLine) :
    Ev (tSl3 te tl tu ts) σ H (.str (Txt.sliceBy x (some (i, 0)) (some (j, 0)) (k, 0))) :=
  fun H1 e Q q => h H1 e _ fun H2 e2 => h1 H2 (e.trans e2) _ fun H3 e3 => h2 H3 ((e.trans e2).trans e3) _ fun H4 e4 =>
    h3 H4 (((e.trans e2).trans e3).trans e4) _ fun H5 e5 => ⟨x, i, j, k, rfl, rfl, rfl, rfl, pos, z, q H5 (((e2.trans e3).trans e4).trans e5)⟩
theorem ev_str_len {x : Str} (h : Ev te σ H (.str x)) (z : x.length ≤ sizeLine) :
    Ev (tCB (fun xs H Q => ∃ x n, xs = [x] ∧ LenV K x H n ∧ Q (.int (n : Nat)) H) (tCons te tNil)) σ H (.int (x.length : Nat)) :=
  fun H1 e Q q => h H1 e _ fun H2 e2 => ⟨.str x, x.length, rfl, ⟨z, rfl⟩, q H2 e2⟩
theorem ev_anyN {bs : List Bool} (h : EvL te σ H (bs.map V.bl)) : Ev (tCB (rAny K) (tCons te tNil)) σ H (.bl (bs.any id)) :=
  fun H1 e Q q => h H1 e _ fun p H2 _ e2 hp => ⟨p, bs, rfl, sq_of hp, q H2 e2⟩
theorem ev_allN {bs : List Bool} (h : EvL te σ H (bs.map V.bl)) : Ev (tCB (rAll K) (tCons te tNil)) σ H (.bl (bs.all id)) :=
  fun H1 e Q q => h H1 e _ fun p H2 _ e2 hp => ⟨p, bs, rfl, sq_of hp, q H2 e2⟩
theorem eu_tupleN {xs : List V} (h : EvL te σ H xs) : EvU (tCB (fun xs H Q => ∃ p ys, xs = [.ref p] ∧ ((SqL K H p ys ∧ ∀ l, H l = none → Q (.ref l) (upd H l (.tup ys))) ∨ (SqT K H p ys ∧ Q (.ref p) H))) (tCons te tNil)) σ H xs :=
  fun H1 e Q q => h H1 e _ fun p H2 _ e2 h2 => ⟨p, xs, rfl, Or.inl ⟨sq_of h2, fun l hl => q l _ (fresh_back e2 hl) (e2.trans (Ex.new hl)) upd_same⟩⟩
theorem et_yes : EvT tYes σ H true := fun H1 _ _ q => q H1 (Ex.refl H1)
/-- over a text's signs -/
theorem el_lcS {x : Str} {tl : TE} {tt : TT} {j : Nat} {vs : List Nat} (f : Nat → Bool) (v : Nat → V) (h : Ev tl σ H (.str x)) (hz : x.cps.size ≤ 40000)
    (hw : ∀ y, wipe ((wipe σ vs).set j (some y)) vs = wipe σ vs)
    (ht : ∀ (i c : Nat) H1, Ex H H1 → x.cps[i]? = some c → EvT tt ((wipe σ vs).set j (some (.str ⟨#[c]⟩))) H1 (f i))
    (he : ∀ (i c : Nat) H1, Ex H H1 → x.cps[i]? = some c → f i = true → Ev te ((wipe σ vs).set j (some (.str ⟨#[c]⟩))) H1 (v i)) :
    EvL (tLc (iStr tl) (gName j) tt te vs) σ H (given x.cps.size f v) := fun H0 e Q q => h H0 e _ fun H1 e1 => ⟨x, rfl, fun Dl hD =>
  lc_str (x := x) (Cw H1 f v Dl) ⟨hD, Ex.new hD, upd_same⟩ (fun i c H' hi p =>
    ⟨hw _, cw_turn p (by have := (Array.getElem?_eq_some_iff.mp hi).1; omega) (ht i c H1 (e.trans e1) hi) (fun hf => he i c H1 (e.trans e1) hi hf)⟩)
    (fun H' p => q Dl H' (fresh_back e1 p.1) (e1.trans p.2.1) p.2.2)⟩
/-- over a tuple that is made on the way -/
theorem el_lcU {xs : List V} {tl : TE} {tt : TT} {j : Nat} {vs : List Nat} (f : Nat → Bool) (v : Nat → V) (h : EvU tl σ H xs) (hz : xs.length ≤ 40000)
    (hw : ∀ y, wipe ((wipe σ vs).set j (some y)) vs = wipe σ vs)
    (ht : ∀ (i : Nat) (x : V) H1, Ex H H1 → xs[i]? = some x → EvT tt ((wipe σ vs).set j (some x)) H1 (f i))
    (he : ∀ (i : Nat) (x : V) H1, Ex H H1 → xs[i]? = some x → f i = true → Ev te ((wipe σ vs).set j (some x)) H1 (v i)) :
    EvL (tLc (iTup K tl) (gName j) tt te vs) σ H (given xs.length f v) := fun H0 e Q q => h H0 e _ fun a H1 ha e1 hx => ⟨a, rfl, ⟨xs, st_of hx⟩, fun Dl hD =>
  lc_tup (xs := xs) (Cw H1 f v Dl) ⟨hD, Ex.new hD, upd_same⟩ (fun i H' _ p => st_of (p.2.1 a _ hx)) (fun i x H' hi p =>
    ⟨hw _, cw_turn p (by have := (List.getElem?_eq_some_iff.mp hi).1; omega) (ht i x H1 (e.trans e1) hi) (fun hf => he i x H1 (e.trans e1) hi hf)⟩)
    (fun H' p => q Dl H' (fresh_back e1 p.1) (e1.trans p.2.1) p.2.2)⟩
theorem ev_inSign {ta tb : TE} {c : Nat} {z : Str} (ha : Ev ta σ H (.str ⟨#[c]⟩)) (hb : Ev tb σ H (.str z)) :
    Ev (tOp (fun x y H Q => ∃ (c : Nat) (z : Str), x = .str ⟨#[c]⟩ ∧ y = .str z ∧ Q (.bl (decide (c ∈ z.cps.toList))) H) ta tb) σ H (.bl (decide (c ∈ z.cps.toList))) :=
  ev_op ha hb fun H1 _ Q q => ⟨c, z, rfl, rfl, q H1 (Ex.refl H1)⟩
theorem ev_count {ta tb : TE} {x y : Str} (ha : Ev ta σ H (.str x)) (hb : Ev tb σ H (.str y)) :
    Ev (tBM K "str" (fun x xs H Q => ∃ a b, x = .str a ∧ xs = [.str b] ∧ Q (.int (Txt.count a b)) H) ta (tCons tb tNil)) σ H (.int (Txt.count x y)) :=
  fun H1 e Q q => ha H1 e _ fun H2 e2 => ⟨rfl, hb H2 (e.trans e2) _ fun H3 e3 => ⟨x, y, rfl, rfl, q H3 (e2.trans e3)⟩⟩
def nth (l : List V) (i : Nat) : V := l.getD i .non
theorem nth_of {l : List V} {i : Nat} {x : V} (h : l[i]? = some x) : nth l i = x := by
  unfold nth
  rw [List.getD_eq_getElem?_getD, h]
  rfl
theorem given_all (l : List V) (g : V → V) : given l.length (fun _ => true) (fun i => g (nth l i)) = l.map g := by
  unfold given
  refine List.ext_getElem? fun i => ?_
  rw [List.filter_eq_self.mpr (fun _ _ => rfl), List.getElem?_map, List.getElem?_map]
  by_cases h : i < l.length
  · rw [List.getElem?_range h, List.getElem?_eq_getElem h]
    show some (g (nth l i)) = some (g l[i])
    rw [nth_of (List.getElem?_eq_getElem h)]
  · rw [List.getElem?_eq_none (by simpa using h), List.getElem?_eq_none (by omega)]
    rfl
theorem given_mem {n : Nat} {f : Nat → Bool} {v : Nat → V} {x : V} (h : x ∈ given n f v) : ∃ i, i < n ∧ f i = true ∧ x = v i := by
  unfold given at h
  obtain ⟨i, hi, rfl⟩ := List.mem_map.mp h
  obtain ⟨h1, h2⟩ := List.mem_filter.mp hi
  exact ⟨i, List.mem_range.mp h1, h2, rfl⟩
theorem eu_repK {ta tb : TE} {x : V} {n : Nat} (h1 : EvU ta σ H [x]) (h2 : Ev tb σ H (.int (n : Int))) (n1 : 1 ≤ n) (n2 : n ≤ 1000) :
    EvU (tOp (rRepK K) ta tb) σ H (List.replicate n x) := fun H1 e Q q => h1 H1 e _ fun p H2 hp e2 hx => h2 H2 (e.trans e2) _ fun H3 e3 => by
  refine ⟨p, (n : Int), [x], rfl, rfl, st_of (e3 _ _ hx), by simp, by omega, by omega, by show 1 ≤ 1000; decide, fun one => ?_, fun two p2 hp2 => ?_⟩
  · obtain rfl : n = 1 := by omega
    exact q p H3 hp (e2.trans e3) (e3 _ _ hx)
  · refine q p2 _ (fresh_back (e2.trans e3) hp2) ((e2.trans e3).trans (Ex.new hp2)) ?_
    rw [upd_same, Int.toNat_natCast]
    congr 2
    simp
theorem ev_def2U {sp : Sp} {v z : V} {xs : List V} {ta tb : TE} (h1 : Ev ta σ H z) (h2 : EvU tb σ H xs)
    (hs : ∀ p H1, Ex H H1 → H1 p = some (.tup xs) → ∀ Q : VK, (∀ H2, Ex H1 H2 → Q v H2) → sp [z, .ref p] H1 Q E0) : Ev (tDef sp (tCons ta (tCons tb tNil))) σ H v :=
  fun H1 e Q q => h1 H1 e _ fun H2 e2 => h2 H2 (e.trans e2) _ fun p H3 _ e3 hp => hs p H3 ((e.trans e2).trans e3) hp Q fun H4 e4 => q H4 ((e2.trans e3).trans e4)
theorem ev_def {sp : Sp} {v : V} {ta : TA} {vs : List V} (h : EvA ta σ H vs) (hs : ∀ H1, Ex H H1 → ∀ Q : VK, (∀ H2, Ex H1 H2 → Q v H2) → sp vs H1 Q E0) : Ev (tDef sp ta) σ H v :=
  fun H1 e Q q => h H1 e _ fun H2 e2 => hs H2 (e.trans e2) Q fun H3 e3 => q H3 (e2.trans e3)
end

/-! ### rows of tuples -/
abbrev IsRow (H : Hp) (x : V) (as : List Nat) : Prop := ∃ a, x = .ref a ∧ H a = some (.tup (iv as))
abbrev Rows (H : Hp) (xs : List V) (L : List (List Nat)) : Prop := Paired (IsRow H) xs L
theorem Rows.mono {H H' : Hp} (e : Evl.Ex H H') : ∀ {xs : List V} {L : List (List Nat)}, Rows H xs L → Rows H' xs L
  | _, _, .nil => .nil
  | _, _, .cons ⟨a, h1, h2⟩ t => .cons ⟨a, h1, e _ _ h2⟩ (Rows.mono e t)
theorem Rows.but {p : Addr} {H H' : Hp} (e : ∀ b o, b ≠ p → H b = some o → H' b = some o) (np : ∀ l, H p ≠ some (.tup l)) : ∀ {xs : List V} {L : List (List Nat)}, Rows H xs L → Rows H' xs L
  | _, _, .nil => .nil
  | _, _, .cons ⟨a, h1, h2⟩ t => .cons ⟨a, h1, e _ _ (fun z => np _ (z ▸ h2)) h2⟩ (Rows.but e np t)
theorem Rows.len {H : Hp} {xs : List V} {L : List (List Nat)} (r : Rows H xs L) : xs.length = L.length := Paired.length r
theorem Rows.append {H : Hp} : ∀ {xs ys : List V} {L M : List (List Nat)}, Rows H xs L → Rows H ys M → Rows H (xs ++ ys) (L ++ M)
  | _, _, _, _, .nil, s => s
  | _, _, _, _, .cons r t, s => .cons r (Rows.append t s)
theorem Rows.get {H : Hp} : ∀ {xs : List V} {L : List (List Nat)} {i : Nat} {x : V}, Rows H xs L → xs[i]? = some x → ∃ as, L[i]? = some as ∧ IsRow H x as
  | _, _, _, _, .nil, h => by simp at h
  | _, _, 0, _, .cons r t, h => by simp at h; subst h; exact ⟨_, rfl, r⟩
  | _, _, i + 1, _, .cons r t, h => by
    obtain ⟨as, h1, h2⟩ := Rows.get (i := i) t (by simpa using h)
    exact ⟨as, by simpa using h1, h2⟩
/-- a comprehension of two clauses: the outer one over a list -/
theorem lc2_out {K : PySem.W.Frag} {a : Addr} {xs : List V} {H0 : Hp} {Qd : Hp → Prop} {Bd : V → Hp → (Hp → Prop) → Prop} (Pv : Nat → Hp → Prop) (h0 : Pv 0 H0)
    (hl : ∀ i H, i ≤ xs.length → Pv i H → SqL K H a xs) (hs : ∀ i x H, xs[i]? = some x → Pv i H → Bd x H (Pv (i + 1))) (hd : ∀ H, Pv xs.length H → Qd H) :
    ∃ W : Nat → Nat → Hp → Prop, (∃ m, W 0 m H0) ∧ ∀ i m H, W i m H → ((Itl K a).stop i H ∧ Qd H) ∨
      ((Itl K a).go i H ∧ ∃ Nx : Hp → Prop, (∀ H', Nx H' → ∃ m', m' < m ∧ W (i + 1) m' H') ∧ ∀ x H', (Itl K a).yld i H x H' → Bd x H' Nx) := by
  refine ⟨fun i m H => m = xs.length - i ∧ i ≤ xs.length ∧ Pv i H, ⟨xs.length, by simp, Nat.zero_le _, h0⟩, ?_⟩
  rintro i m H ⟨rfl, le, p⟩
  have here := hl i H le p
  by_cases lt : i < xs.length
  · refine Or.inr ⟨⟨xs, xs[i], here, List.getElem?_eq_getElem lt⟩, Pv (i + 1), fun H' p' => ⟨xs.length - (i + 1), by omega, rfl, lt, p'⟩, ?_⟩
    rintro x H' ⟨rfl, hx⟩
    exact hs i x _ (hx xs here) p
  · obtain rfl : i = xs.length := by omega
    exact Or.inl ⟨⟨xs, here, Nat.le_refl _⟩, hd H p⟩
/-- .. over a tuple -/
theorem lc2_tup {K : PySem.W.Frag} {a : Addr} {xs : List V} {H0 : Hp} {Qd : Hp → Prop} {Bd : V → Hp → (Hp → Prop) → Prop} (Pv : Nat → Hp → Prop) (h0 : Pv 0 H0)
    (hl : ∀ i H, i ≤ xs.length → Pv i H → SqT K H a xs) (hs : ∀ i x H, xs[i]? = some x → Pv i H → Bd x H (Pv (i + 1))) (hd : ∀ H, Pv xs.length H → Qd H) :
    ∃ W : Nat → Nat → Hp → Prop, (∃ m, W 0 m H0) ∧ ∀ i m H, W i m H → ((Itt K a).stop i H ∧ Qd H) ∨
      ((Itt K a).go i H ∧ ∃ Nx : Hp → Prop, (∀ H', Nx H' → ∃ m', m' < m ∧ W (i + 1) m' H') ∧ ∀ x H', (Itt K a).yld i H x H' → Bd x H' Nx) := by
  refine ⟨fun i m H => m = xs.length - i ∧ i ≤ xs.length ∧ Pv i H, ⟨xs.length, by simp, Nat.zero_le _, h0⟩, ?_⟩
  rintro i m H ⟨rfl, le, p⟩
  have here := hl i H le p
  by_cases lt : i < xs.length
  · refine Or.inr ⟨⟨xs, xs[i], here, List.getElem?_eq_getElem lt⟩, Pv (i + 1), fun H' p' => ⟨xs.length - (i + 1), by omega, rfl, lt, p'⟩, ?_⟩
    rintro x H' ⟨rfl, hx⟩
    exact hs i x _ (hx xs here) p
  · obtain rfl : i = xs.length := by omega
    exact Or.inl ⟨⟨xs, here, Nat.le_refl _⟩, hd H p⟩
def ext (r : List Nat) : List (List Nat) := [r ++ [0], r ++ [1], r ++ [2]]
theorem tups_succ (n : Nat) : tups (n + 1) = (tups n).flatMap ext := rfl
theorem flat_take {L : List (List Nat)} {i : Nat} {r : List Nat} (h : L[i]? = some r) : (L.take (i + 1)).flatMap ext = (L.take i).flatMap ext ++ ext r := by
  rw [List.take_succ, h, List.flatMap_append]
  simp
theorem flat_small {n i : Nat} (h : n ≤ 3) : ((tups n).take i).length ≤ 27 ∧ (((tups n).take i).flatMap ext).length ≤ 81 := by
  have e : ∀ L : List (List Nat), (L.flatMap ext).length = 3 * L.length := by
    intro L
    induction L with
    | nil => rfl
    | cons a r ih =>
      rw [List.flatMap_cons, List.length_append, ih, List.length_cons]
      show 3 + 3 * r.length = _
      omega
  have h1 : (tups n).length ≤ 27 := by
    rw [(tups_ok n h).1]
    exact Nat.le_trans (Nat.pow_le_pow_right (by decide) h) (by decide)
  rw [e, List.length_take]
  omega
/-- tuple + a tuple of one: a row more -/
theorem catA_row {K : PySem.W.Frag} {H : Hp} {x : V} {as : List Nat} {k : Nat} (r : IsRow H x as) (z : as.length ≤ 100) {q : Addr} (hq : H q = some (.tup [V.int (k : Int)])) {Q : VK}
    (h : ∀ y H', Evl.Ex H H' → IsRow H' y (as ++ [k]) → Q y H') : rCatA K x (.ref q) H Q := by
  obtain ⟨a, rfl, ha⟩ := r
  have e2 : iv as ++ [V.int (k : Int)] = iv (as ++ [k]) := by unfold iv; rw [List.map_append]; rfl
  refine ⟨a, q, _, _, rfl, rfl, SqT.of ha, SqT.of hq, ?_, fun e => ?_, fun _ e => (by cases e), fun _ _ p hp => ?_⟩
  · rw [iv_len]
    exact Nat.le_trans (Nat.add_le_add_right z 1) (by decide)
  · refine h (.ref q) H (Evl.Ex.refl H) ⟨q, rfl, ?_⟩
    rw [hq, ← e2, e]
    rfl
  · refine h (.ref p) _ (Evl.Ex.new hp) ⟨p, rfl, ?_⟩
    rw [upd_same, e2]
theorem tups_short {n j : Nat} {r : List Nat} (h : n ≤ 3) (e : (tups n)[j]? = some r) : r.length ≤ 100 := by
  obtain ⟨lt, e2⟩ := List.getElem?_eq_some_iff.mp e
  have h1 := ((tups_ok n h).2 j lt).2.1
  rw [List.getD_eq_getElem?_getD, e] at h1
  have : r.length = n := h1
  omega
theorem ext_take (r : List Nat) {m : Nat} (h : m < 3) : (ext r).take (m + 1) = (ext r).take m ++ [r ++ [m]] := by
  have : m = 0 ∨ m = 1 ∨ m = 2 := by omega
  rcases this with rfl | rfl | rfl <;> rfl
theorem iv3_at {m : Nat} {x : V} (h : (iv [0, 1, 2])[m]? = some x) : m < 3 ∧ x = .int (m : Int) := by
  match m, h with
  | 0, h => exact ⟨by decide, (Option.some.inj h).symm⟩
  | 1, h => exact ⟨by decide, (Option.some.inj h).symm⟩
  | 2, h => exact ⟨by decide, (Option.some.inj h).symm⟩

/-! ### texts put together of signs -/
def rJoin (K : PySem.W.Frag) : V → List V → Hp → VK → Prop := fun x xs H Q => ∃ a p, ∃ ys : List Str, x = .str a ∧ xs = [.ref p] ∧
  (SqL K H p (ys.map V.str) ∨ SqT K H p (ys.map V.str)) ∧ (ys.map (·.length)).sum + ys.length * a.length ≤ 16777216 ∧ Q (.str (Txt.join a ys)) H
theorem join_fold : ∀ (ds : List Nat) (acc : Array Nat), (ds.map fun d => (⟨#[48 + d]⟩ : Str)).foldl (fun a p => a ++ (Str.ofString "").cps ++ p.cps) acc = acc ++ (ds.map (48 + ·)).toArray
  | [], acc => by simp
  | d :: r, acc => by
    rw [List.map_cons, List.foldl_cons, join_fold r]
    have e : (Str.ofString "").cps = #[] := rfl
    rw [e]
    simp
theorem join_tab (ds : List Nat) : Txt.join (Str.ofString "") (ds.map fun d => (⟨#[48 + d]⟩ : Str)) = tab ds := by
  cases ds with
  | nil => rfl
  | cons d r =>
    show Builtin.Str.glued (Str.ofString "") (⟨#[48 + d]⟩ :: r.map fun d => (⟨#[48 + d]⟩ : Str)) = _
    unfold Builtin.Str.glued tab
    rw [List.drop_one, List.tail_cons, join_fold r]
    simp
section
open Evl
variable {K : PySem.W.Frag} {σ : L2.St} {H : Hp} {te : TE}
theorem ev_joinL {a : Str} {ys : List Str} {to : TE} (h1 : Ev to σ H (.str a)) (h2 : EvL te σ H (ys.map V.str)) (z : (ys.map (·.length)).sum + ys.length * a.length ≤ 16777216) :
    Ev (tM1 (rJoin K) to te) σ H (.str (Txt.join a ys)) := fun H1 e Q q => h1 H1 e _ fun H2 e2 => ⟨⟨a, rfl⟩, h2 H2 (e.trans e2) _ fun p H3 _ e3 h3 =>
  ⟨a, p, ys, rfl, rfl, Or.inl (sq_of h3), z, q H3 (e2.trans e3)⟩⟩
theorem ev_joinTab {ds : List Nat} {to : TE} (h1 : Ev to σ H (.str (Str.ofString ""))) (h2 : EvL te σ H ((ds.map fun d => (⟨#[48 + d]⟩ : Str)).map V.str)) (z : ds.length ≤ 1000) :
    Ev (tM1 (rJoin K) to te) σ H (.str (tab ds)) := by
  rw [← join_tab]
  refine ev_joinL h1 h2 ?_
  have e : ((ds.map fun d => (⟨#[48 + d]⟩ : Str)).map (·.length)).sum = ds.length := by
    clear h2 z
    induction ds with
    | nil => rfl
    | cons d r ih =>
      rw [List.map_cons, List.map_cons, List.sum_cons, ih, List.length_cons]
      show 1 + r.length = _
      omega
  have e0 : (Str.ofString "").length = 0 := rfl
  rw [e, e0, List.length_map]
  omega
/-- over a tuple that stands -/
theorem el_lcT {a : Addr} {xs : List V} {tl : TE} {tt : TT} {j : Nat} {vs : List Nat} (f : Nat → Bool) (v : Nat → V) (h : Ev tl σ H (.ref a)) (hx : SqT K H a xs) (hz : xs.length ≤ 40000)
    (hw : ∀ y, wipe ((wipe σ vs).set j (some y)) vs = wipe σ vs)
    (ht : ∀ (i : Nat) (x : V) H1, Ex H H1 → xs[i]? = some x → EvT tt ((wipe σ vs).set j (some x)) H1 (f i))
    (he : ∀ (i : Nat) (x : V) H1, Ex H H1 → xs[i]? = some x → f i = true → Ev te ((wipe σ vs).set j (some x)) H1 (v i)) :
    EvL (tLc (iTup K tl) (gName j) tt te vs) σ H (given xs.length f v) := fun H0 e Q q => h H0 e _ fun H1 e1 => ⟨a, rfl, ⟨xs, ex_t (e.trans e1) hx⟩, fun Dl hD =>
  lc_tup (xs := xs) (Cw H1 f v Dl) ⟨hD, Ex.new hD, upd_same⟩ (fun i H' _ p => ex_t ((e.trans e1).trans p.2.1) hx) (fun i x H' hi p =>
    ⟨hw _, cw_turn p (by have := (List.getElem?_eq_some_iff.mp hi).1; omega) (ht i x H1 (e.trans e1) hi) (fun hf => he i x H1 (e.trans e1) hi hf)⟩)
    (fun H' p => q Dl H' (fresh_back e1 p.1) (e1.trans p.2.1) p.2.2)⟩
theorem given_iv {α : Type} (d0 : α) (as : List α) (g : α → V) : given as.length (fun _ => true) (fun i => g (as.getD i d0)) = as.map g := by
  unfold given
  refine List.ext_getElem? fun i => ?_
  rw [List.filter_eq_self.mpr (fun _ _ => rfl), List.getElem?_map, List.getElem?_map]
  by_cases h : i < as.length
  · rw [List.getElem?_range h, List.getElem?_eq_getElem h]
    show some (g (as.getD i d0)) = some (g as[i])
    rw [List.getD_eq_getElem?_getD, List.getElem?_eq_getElem h]
    rfl
  · rw [List.getElem?_eq_none (by simpa using h), List.getElem?_eq_none (by omega)]
    rfl
theorem ev_strInt {d : Nat} (h : Ev te σ H (.int (d : Int))) (d3 : d < 3) :
    Ev (tCB (fun xs H Q => ∃ i : Int, xs = [.int i] ∧ i.natAbs.log2 < 1920 ∧ Q (.str (toString i)) H) (tCons te tNil)) σ H (.str ⟨#[48 + d]⟩) :=
  fun H1 e Q q => h H1 e _ fun H2 e2 => ⟨(d : Int), rfl, by have : d = 0 ∨ d = 1 ∨ d = 2 := by omega
                                                            rcases this with rfl | rfl | rfl <;> decide, by have := q H2 e2; rw [← str_digit d d3] at this; exact this⟩
end

/-! ### rows made of rows -/
section
open Evl
variable {K : PySem.W.Frag} {σ : L2.St} {H : Hp} {ta tb te : TE}
def EvRow (te : TE) (σ : L2.St) (H : Hp) (as : List Nat) : Prop := ∀ H1, Ex H H1 → ∀ Q : VK, (∀ y H2, Ex H1 H2 → IsRow H2 y as → Q y H2) → te σ H1 Q
theorem evr_take {p : Addr} {as : List Nat} {k : Nat} {tk : TE} (h : Ev te σ H (.ref p)) (hp : H p = some (.tup (iv as))) (hk : Ev tk σ H (.int (k : Int))) (lt : k < as.length) :
    EvRow (tSl (rSlA K) te tNoPart (tPart tk)) σ H (as.take k) := fun H1 e Q q => h H1 e _ fun H2 e2 => hk H2 (e.trans e2) _ fun H3 e3 => by
  refine ⟨(k : Int), rfl, p, iv as, rfl, st_of (e3 _ _ (e2 _ _ (e _ _ hp))), fun z => ?_, fun _ r hr => ?_⟩
  · rw [HT.sIx_nat, iv_len] at z
    omega
  · refine q (.ref r) _ ((e2.trans e3).trans (Ex.new hr)) ⟨r, rfl, ?_⟩
    rw [upd_same]
    unfold cutV
    rw [HT.sIx_none, HT.sIx_nat, List.drop_zero, Nat.sub_zero, iv_len, Nat.min_eq_left (by omega)]
    unfold iv
    rw [List.map_take]
theorem evr_drop {p : Addr} {as : List Nat} {k : Nat} {tk : TE} (h : Ev te σ H (.ref p)) (hp : H p = some (.tup (iv as))) (hk : Ev tk σ H (.int ((k : Int) + 1))) (lt : k < as.length) :
    EvRow (tSl (rSlA K) te (tPart tk) tNoPart) σ H (as.drop (k + 1)) := fun H1 e Q q => h H1 e _ fun H2 e2 => hk H2 (e.trans e2) _ fun H3 e3 => by
  have ek : (k : Int) + 1 = ((k + 1 : Nat) : Int) := by omega
  refine ⟨(k : Int) + 1, rfl, p, iv as, rfl, st_of (e3 _ _ (e2 _ _ (e _ _ hp))), fun z => ?_, fun _ r hr => ?_⟩
  · rw [ek, HT.sIx_nat, iv_len] at z
    omega
  · refine q (.ref r) _ ((e2.trans e3).trans (Ex.new hr)) ⟨r, rfl, ?_⟩
    rw [upd_same]
    unfold cutV
    rw [ek, HT.sIx_none, HT.sIx_nat, iv_len, Nat.min_eq_left (by omega)]
    unfold iv
    rw [List.take_of_length_le (by simp), List.map_drop]
theorem evr_one {k : Nat} (h : Ev te σ H (.int (k : Int))) : EvRow (tTup (tCons te tNil)) σ H [k] := fun H1 e Q q => h H1 e _ fun H2 e2 =>
  ⟨by show 1 ≤ sizeLine; decide, fun r hr => q (.ref r) _ (e2.trans (Ex.new hr)) ⟨r, rfl, upd_same⟩⟩
theorem evr_cat {as bs : List Nat} (ha : EvRow ta σ H as) (hb : EvRow tb σ H bs) (z : as.length + bs.length ≤ 1000) : EvRow (tOp (rCatA K) ta tb) σ H (as ++ bs) :=
  fun H1 e Q q => ha H1 e _ fun x H2 e2 ⟨a, ex, hx⟩ => hb H2 (e.trans e2) _ fun y H3 e3 ⟨b, ey, hy⟩ => by
    subst ex
    subst ey
    have hx3 := e3 _ _ hx
    refine ⟨a, b, iv as, iv bs, rfl, rfl, st_of hx3, st_of hy, by rw [iv_len, iv_len]; exact Nat.le_trans z (by decide), fun h => ?_, fun h h2 => ?_, fun h h2 r hr => ?_⟩
    · have : as = [] := by cases as with
        | nil => rfl
        | cons a b => cases h
      subst this
      exact q (.ref b) H3 (e2.trans e3) ⟨b, rfl, hy⟩
    · have : bs = [] := by cases bs with
        | nil => rfl
        | cons a b => cases h2
      subst this
      rw [List.append_nil] at q
      exact q (.ref a) H3 (e2.trans e3) ⟨a, rfl, hx3⟩
    · refine q (.ref r) _ ((e2.trans e3).trans (Ex.new hr)) ⟨r, rfl, ?_⟩
      rw [upd_same]
      unfold iv
      rw [List.map_append]
theorem ev_defRow {sp : Sp} {v z : V} {as : List Nat} (h1 : Ev ta σ H z) (h2 : EvRow tb σ H as)
    (hs : ∀ p H1, Ex H H1 → H1 p = some (.tup (iv as)) → ∀ Q : VK, (∀ H2, Ex H1 H2 → Q v H2) → sp [z, .ref p] H1 Q E0) : Ev (tDef sp (tCons ta (tCons tb tNil))) σ H v :=
  fun H1 e Q q => h1 H1 e _ fun H2 e2 => h2 H2 (e.trans e2) _ fun y H3 e3 ⟨p, ey, hp⟩ => by
    subst ey
    exact hs p H3 ((e.trans e2).trans e3) hp Q fun H4 e4 => q H4 ((e2.trans e3).trans e4)
theorem el_rep3 {xs : List V} (h : EvL ta σ H xs) (z : xs.length ≤ 1000) : EvL (tOp rRep ta (tC (.int 3))) σ H (xs ++ (xs ++ xs)) := fun H1 e Q q => h H1 e _ fun p H2 hp e2 hx =>
  ⟨p, 3, xs, rfl, rfl, hx, by decide, by decide, Nat.le_trans (by show xs.length * 3 ≤ 3000; omega) (by decide), fun r hr => q r _ (fresh_back e2 hr) (e2.trans (Ex.new hr)) (by
    rw [upd_same]
    congr 2
    show xs ++ (xs ++ (xs ++ [])) = _
    rw [List.append_nil])⟩
end
theorem set_split (as : List Nat) (k e : Nat) (h : k < as.length) : as.take k ++ [e] ++ as.drop (k + 1) = as.set k e := by
  rw [List.set_eq_take_append_cons_drop, if_pos h]
  simp
theorem gen_app {f : Hp → Prop} {H0 : Hp} (h : ∀ H1, H1 = H0 → f H1) : f H0 := h H0 rfl
/-- digits as signs -/
def signs_ (ds : List Nat) : List V := (ds.map fun d => (⟨#[48 + d]⟩ : Str)).map V.str
theorem signs_snoc (ds : List Nat) (d : Nat) : signs_ ds ++ [V.str ⟨#[48 + d]⟩] = signs_ (ds ++ [d]) := by unfold signs_; rw [List.map_append, List.map_append]; rfl
end Tv

namespace Tv
open PySem PySem.Spec PyProof.Rows L2 Evl
/-! ### rows of anything, all ways to take one of each lot -/
abbrev IsRowV (H : Hp) (x : V) (r : List V) : Prop := ∃ a, x = .ref a ∧ H a = some (.tup r)
abbrev RowsV (H : Hp) (xs : List V) (L : List (List V)) : Prop := Paired (IsRowV H) xs L
theorem RowsV.mono {H H' : Hp} (e : Ex H H') : ∀ {xs : List V} {L : List (List V)}, RowsV H xs L → RowsV H' xs L
  | _, _, .nil => .nil
  | _, _, .cons ⟨a, h1, h2⟩ t => .cons ⟨a, h1, e _ _ h2⟩ (RowsV.mono e t)
theorem RowsV.but {p : Addr} {H H' : Hp} (e : ∀ b o, b ≠ p → H b = some o → H' b = some o) (np : ∀ l, H p ≠ some (.tup l)) : ∀ {xs : List V} {L : List (List V)}, RowsV H xs L → RowsV H' xs L
  | _, _, .nil => .nil
  | _, _, .cons ⟨a, h1, h2⟩ t => .cons ⟨a, h1, e _ _ (fun z => np _ (z ▸ h2)) h2⟩ (RowsV.but e np t)
theorem RowsV.len {H : Hp} {xs : List V} {L : List (List V)} (r : RowsV H xs L) : xs.length = L.length := Paired.length r
theorem RowsV.append {H : Hp} : ∀ {xs ys : List V} {L M : List (List V)}, RowsV H xs L → RowsV H ys M → RowsV H (xs ++ ys) (L ++ M)
  | _, _, _, _, .nil, s => s
  | _, _, _, _, .cons r t, s => .cons r (RowsV.append t s)
theorem RowsV.get {H : Hp} : ∀ {xs : List V} {L : List (List V)} {i : Nat} {x : V}, RowsV H xs L → xs[i]? = some x → ∃ as, L[i]? = some as ∧ IsRowV H x as
  | _, _, _, _, .nil, h => by simp at h
  | _, _, 0, _, .cons r t, h => by simp at h; subst h; exact ⟨_, rfl, r⟩
  | _, _, i + 1, _, .cons r t, h => by
    obtain ⟨as, h1, h2⟩ := RowsV.get (i := i) t (by simpa using h)
    exact ⟨as, by simpa using h1, h2⟩
theorem Rows.ofV {H : Hp} : ∀ {xs : List V} {L : List (List Nat)}, RowsV H xs (L.map iv) → Rows H xs L
  | _, [], .nil => .nil
  | _, _ :: _, .cons r t => .cons r (Rows.ofV t)
theorem Rows.toV {H : Hp} : ∀ {xs : List V} {L : List (List Nat)}, Rows H xs L → RowsV H xs (L.map iv)
  | _, _, .nil => .nil
  | _, _, .cons r t => .cons r (Rows.toV t)
def grow (r : List V) (xs : List V) : List (List V) := xs.map fun x => r ++ [x]
def growAll (L : List (List V)) (xs : List V) : List (List V) := L.flatMap fun r => grow r xs
def ways (xss : List (List V)) : List (List V) := xss.foldl growAll [[]]
theorem ways_snoc (xss : List (List V)) (xs : List V) : ways (xss ++ [xs]) = growAll (ways xss) xs := by simp [ways]
theorem ways_take {xss : List (List V)} {i : Nat} {xs : List V} (h : xss[i]? = some xs) : ways (xss.take (i + 1)) = growAll (ways (xss.take i)) xs := by
  rw [List.take_succ, h]
  exact ways_snoc _ _
theorem growAll_len (L : List (List V)) (xs : List V) : (growAll L xs).length = L.length * xs.length := by
  unfold growAll grow
  induction L with
  | nil => simp
  | cons a r ih =>
    rw [List.flatMap_cons, List.length_append, ih, List.length_cons, Nat.succ_mul, List.length_map]
    omega
theorem ways_row : ∀ {xss : List (List V)} {r : List V}, r ∈ ways xss → r.length = xss.length := by
  intro xss
  induction h : xss.length generalizing xss with
  | zero =>
    intro r hr
    obtain rfl := List.eq_nil_of_length_eq_zero h
    simp [ways] at hr
    subst hr
    rfl
  | succ n ih =>
    intro r hr
    have ne : xss ≠ [] := fun e => by rw [e] at h; cases h
    rw [← List.dropLast_concat_getLast ne, ways_snoc] at hr
    unfold growAll grow at hr
    obtain ⟨q, hq, hr⟩ := List.mem_flatMap.mp hr
    obtain ⟨x, _, rfl⟩ := List.mem_map.mp hr
    have := ih (xss := xss.dropLast) (by rw [List.length_dropLast]; omega) hq
    rw [List.length_append, this]
    rfl
theorem grow_take {L : List (List V)} {xs : List V} {i : Nat} {r : List V} (h : L[i]? = some r) : growAll (L.take (i + 1)) xs = growAll (L.take i) xs ++ grow r xs := by
  unfold growAll
  rw [List.take_succ, h, List.flatMap_append]
  simp
theorem grow_one {r xs : List V} {m : Nat} {x : V} (h : xs[m]? = some x) : grow r (xs.take (m + 1)) = grow r (xs.take m) ++ [r ++ [x]] := by
  unfold grow
  rw [List.take_succ, h, List.map_append]
  rfl
theorem ways_iv : ∀ n : Nat, ways (List.replicate n (iv [0, 1, 2])) = (tups n).map iv
  | 0 => rfl
  | n + 1 => by
    rw [List.replicate_succ', ways_snoc, ways_iv n, tups_succ]
    unfold growAll
    rw [List.flatMap_map, List.map_flatMap]
    congr 1
    funext r
    show grow (iv r) (iv [0, 1, 2]) = (ext r).map iv
    unfold grow ext iv
    simp
/-- tuple + a tuple of one: a row more, of anything -/
theorem catA_rowV {K : PySem.W.Frag} {H : Hp} {x y : V} {as : List V} (r : IsRowV H x as) (z : as.length ≤ 100) {q : Addr} (hq : H q = some (.tup [y])) {Q : VK}
    (h : ∀ u H', Ex H H' → IsRowV H' u (as ++ [y]) → Q u H') : rCatA K x (.ref q) H Q := by
  obtain ⟨a, rfl, ha⟩ := r
  refine ⟨a, q, _, _, rfl, rfl, SqT.of ha, SqT.of hq, ?_, fun e => ?_, fun _ e => (by cases e), fun _ _ p hp => ?_⟩
  · exact Nat.le_trans (Nat.add_le_add_right z 1) (by decide)
  · refine h (.ref q) H (Ex.refl H) ⟨q, rfl, ?_⟩
    rw [hq, e]
    rfl
  · exact h (.ref p) _ (Ex.new hp) ⟨p, rfl, upd_same⟩
/-- the inner clause's invariant: the new rows so far -/
abbrev Grown (D : Addr) (H2 : Hp) (L : List (List V)) (xs : List V) (j : Nat) (r : List V) (m : Nat) (H4 : Hp) : Prop :=
  Ex H2 H4 ∧ ∃ zs, H4 D = some (.lst zs) ∧ RowsV H4 zs (growAll (L.take j) xs ++ grow r (xs.take m))
theorem grown_turn {K : PySem.W.Frag} {D : Addr} {H2 H4 : Hp} {L : List (List V)} {xs ys : List V} {j : Nat} {r : List V} {m : Nat} {x y : V} {tr tx : TE} {σ : L2.St} (hD : H2 D = none)
    (R : RowsV H2 ys L) (at_j : ys[j]? = some x) (at_r : L[j]? = some r) (at_y : xs[m]? = some y) (short : r.length ≤ 100) (few : L.length * xs.length ≤ 60000) (p : Grown D H2 L xs j r m H4)
    (evr : Ev tr σ H2 x) (evx : Ev tx σ H4 y) :
    (tOp (rCatA K) tr (tTup (tCons tx tNil))) σ H4 fun y H5 => ∃ acc, H5 D = some (.lst acc) ∧ acc.length < sizeLine ∧ Grown D H2 L xs j r (m + 1) (upd H5 D (.lst (acc ++ [y]))) := by
  obtain ⟨e4, zs, hD4, R4⟩ := p
  refine evr H4 e4 _ fun H5 e5 => ?_
  refine evx H5 e5 _ fun H6 e6 => ⟨by show 1 ≤ sizeLine; decide, fun q hq => ?_⟩
  have e46 := (e5.trans e6).trans (Ex.new (o := .tup [y]) hq)
  have rx : IsRowV (upd H6 q (.tup [y])) x r := by
    obtain ⟨as, g1, g2⟩ := (R.mono (e4.trans e46)).get at_j
    rw [at_r] at g1
    cases g1
    exact g2
  refine catA_rowV rx short upd_same fun u H7 e7 ru => ?_
  have e47 := e46.trans e7
  refine ⟨zs, e47 _ _ hD4, ?_, Ex.mut (e4.trans e47) hD, zs ++ [u], upd_same, ?_⟩
  · rw [R4.len, List.length_append, growAll_len]
    have s1 : (grow r (xs.take m)).length ≤ xs.length := by unfold grow; rw [List.length_map, List.length_take]; omega
    have jl := (List.getElem?_eq_some_iff.mp at_r).1
    have s2 : (L.take j).length + 1 ≤ L.length := by rw [List.length_take]; omega
    have s3 : ((L.take j).length + 1) * xs.length ≤ 60000 := Nat.le_trans (Nat.mul_le_mul_right _ s2) few
    rw [Nat.succ_mul] at s3
    exact Nat.lt_of_le_of_lt (by omega : _ ≤ 60000) (by decide)
  · rw [grow_one at_y, ← List.append_assoc]
    refine RowsV.append ?_ (.cons ?_ .nil)
    · exact (R4.mono e47).but (p := D) (fun b o nb h => by rw [upd_ne nb]; exact h) (fun l h => by rw [e47 _ _ hD4] at h; cases h)
    · obtain ⟨ya, rfl, hya⟩ := ru
      exact ⟨ya, rfl, by rw [upd_ne (fun z => by rw [z, e47 _ _ hD4] at hya; cases hya)]; exact hya⟩
theorem grown_end {D : Addr} {H2 H4 : Hp} {L : List (List V)} {xs : List V} {j : Nat} {r : List V} (at_r : L[j]? = some r) (p : Grown D H2 L xs j r xs.length H4) :
    Ex H2 H4 ∧ ∃ ys, H4 D = some (.lst ys) ∧ RowsV H4 ys (growAll (L.take (j + 1)) xs) := by
  obtain ⟨e4, zs, hD4, R4⟩ := p
  refine ⟨e4, zs, hD4, ?_⟩
  rw [grow_take at_r]
  rw [List.take_length] at R4
  exact R4
/-- an inner clause over a text's signs -/
theorem lc2_str {x : Str} {H0 : Hp} {Qd : Hp → Prop} {Bd : V → Hp → (Hp → Prop) → Prop} (Pv : Nat → Hp → Prop) (h0 : Pv 0 H0)
    (hs : ∀ i c H, x.cps[i]? = some c → Pv i H → Bd (.str ⟨#[c]⟩) H (Pv (i + 1))) (hd : ∀ H, Pv x.cps.size H → Qd H) :
    ∃ W : Nat → Nat → Hp → Prop, (∃ m, W 0 m H0) ∧ ∀ i m H, W i m H → ((Its x).stop i H ∧ Qd H) ∨
      ((Its x).go i H ∧ ∃ Nx : Hp → Prop, (∀ H', Nx H' → ∃ m', m' < m ∧ W (i + 1) m' H') ∧ ∀ x_1 H', (Its x).yld i H x_1 H' → Bd x_1 H' Nx) := by
  refine ⟨fun i m H => m = x.cps.size - i ∧ i ≤ x.cps.size ∧ Pv i H, ⟨_, rfl, Nat.zero_le _, h0⟩, ?_⟩
  rintro i m H ⟨rfl, le, p⟩
  by_cases lt : i < x.cps.size
  · refine Or.inr ⟨lt, Pv (i + 1), fun H' p' => ⟨x.cps.size - (i + 1), by omega, rfl, lt, p'⟩, ?_⟩
    rintro v H' ⟨rfl, c, hc, rfl⟩
    exact hs i c _ hc p
  · obtain rfl : i = x.cps.size := by omega
    exact Or.inl ⟨Nat.le_refl _, hd H p⟩
/-- a text's signs as values -/
def signsOf (x : Str) : List V := x.cps.toList.map fun c => V.str ⟨#[c]⟩
theorem signsOf_at {x : Str} {i c : Nat} (h : x.cps[i]? = some c) : (signsOf x)[i]? = some (.str ⟨#[c]⟩) := by
  unfold signsOf
  rw [List.getElem?_map, Array.getElem?_toList, h]
  rfl
theorem signsOf_len (x : Str) : (signsOf x).length = x.cps.size := by simp [signsOf]
/-- a list n times -/
theorem el_repN {K : PySem.W.Frag} {σ : L2.St} {H : Hp} {ta tb : TE} {xs : List V} {n : Nat} (h : EvL ta σ H xs) (h2 : Ev tb σ H (.int (n : Int))) (z : xs.length * n ≤ 3000) (n2 : n ≤ 1000) :
    EvL (tOp rRep ta tb) σ H (List.replicate n xs).flatten := fun H1 e Q q => h H1 e _ fun p H2 hp e2 hx => h2 H2 (e.trans e2) _ fun H3 e3 =>
  ⟨p, (n : Int), xs, rfl, rfl, e3 _ _ hx, by omega, by omega, by rw [Int.toNat_natCast]; exact Nat.le_trans z (by decide), fun r hr => q r _ (fresh_back (e2.trans e3) hr) ((e2.trans e3).trans (Ex.new hr)) (by
    rw [upd_same, Int.toNat_natCast])⟩
theorem flat_one {α : Type} (n : Nat) (x : α) : (List.replicate n [x]).flatten = List.replicate n x := by
  induction n with
  | zero => rfl
  | succ n ih => rw [List.replicate_succ, List.flatten_cons, ih, List.replicate_succ]; rfl
end Tv

namespace Tv
open PySem PySem.Spec PyProof.Rows L2 Evl
mutual
theorem dp_mono {K : PySem.W.Frag} {H H' : Hp} (e : Ex H H') : ∀ {v : V} {d : PyData}, Dp K H v d → Dp K H' v d
  | _, _, .non => .non
  | _, _, .bl b => .bl b
  | _, _, .int i => .int i
  | _, _, .str x => .str x
  | _, _, .lst h a => .lst (ex_l e h) (dps_mono e a)
  | _, _, .tup h a => .tup (ex_t e h) (dps_mono e a)
theorem dps_mono {K : PySem.W.Frag} {H H' : Hp} (e : Ex H H') : ∀ {vs : List V} {ds : List PyData}, DpAll K H vs ds → DpAll K H' vs ds
  | _, _, .nil => .nil
  | _, _, .cons a b => .cons (dp_mono e a) (dps_mono e b)
end
/-- small data: ints to 28, truth values -/
def Sm : PyData → Prop
  | .int i => 0 ≤ i ∧ i ≤ 28
  | .bool _ => True
  | _ => False
/-- what a law shows: a list of at most three small ones or tuples of at most three small ones -/
def Sh (d : PyData) : Prop := Sm d ∨ ∃ es, d = .tuple es ∧ es.length ≤ 3 ∧ ∀ e ∈ es, Sm e
theorem small_shown : ∀ n : Nat, n ≤ 28 → ((toString (n : Int) : Str)).length ≤ 4 ∧ (n : Int).natAbs.log2 < 1920 := by decide +kernel
theorem Sm.shown {d : PyData} (h : Sm d) : d.shown.length ≤ 5 := by
  match d, h with
  | .int i, h =>
    obtain ⟨n, rfl⟩ := Int.eq_ofNat_of_zero_le h.1
    exact Nat.le_succ_of_le (small_shown n (by have := h.2; omega)).1
  | .bool true, _ => decide +kernel
  | .bool false, _ => decide +kernel
theorem Sm.showable {d : PyData} (h : Sm d) : d.showable = true := by
  match d, h with
  | .int i, h =>
    obtain ⟨n, rfl⟩ := Int.eq_ofNat_of_zero_le h.1
    exact decide_eq_true (small_shown n (by have := h.2; omega)).2
  | .bool _, _ => rfl
theorem Sm.noDict {d : PyData} (h : Sm d) : d.hasDict = false ∧ d.depth = 0 := by
  match d, h with
  | .int i, h => exact ⟨rfl, rfl⟩
  | .bool _, _ => exact ⟨rfl, rfl⟩

theorem strs_len (x y : Str) : (x ++ y).length = x.length + y.length := Str.length_append ..
theorem list_len (ts : List Str) : (listText ts).length ≤ piled ts + 4 := by
  unfold listText
  rw [strs_len]
  have e1 : (Str.ofString "]").length = 1 := rfl
  cases ts with
  | nil => decide +kernel
  | cons a r =>
    have h := textFrom_length_pos r 1 (Str.ofString "[" ++ Str.ofString "" ++ a) (by decide)
    have e : textFrom 0 (Str.ofString "[") (a :: r) = textFrom 1 (Str.ofString "[" ++ Str.ofString "" ++ a) r := rfl
    rw [e, h, strs_len, strs_len, piled_cons, e1]
    have e2 : (Str.ofString "[").length = 1 := rfl
    have e3 : (Str.ofString "").length = 0 := rfl
    omega
theorem tuple_len (ts : List Str) : (tupleText ts).length ≤ piled ts + 4 := by
  unfold tupleText
  rw [strs_len, strs_len]
  have e1 : (Str.ofString "(").length = 1 := rfl
  have e2 : (Str.ofString (if (ts.length == 1) = true then ",)" else ")")).length ≤ 2 := by split <;> decide
  have e3 : (Str.join (Str.ofString ", ") ts).length ≤ piled ts := by
    cases ts with
    | nil => decide
    | cons a r =>
      have := join_length_add (a :: r) (by simp)
      omega
  omega
theorem piled_le (n : Nat) : ∀ ds : List PyData, (∀ d ∈ ds, d.shown.length ≤ n) → piled (PyData.shownAll ds) ≤ (n + 2) * ds.length
  | [], _ => Nat.zero_le _
  | d :: r, h => by
    have h1 := h d List.mem_cons_self
    have h2 := piled_le n r fun x hx => h x (List.mem_cons_of_mem _ hx)
    show piled (d.shown :: PyData.shownAll r) ≤ _
    rw [piled_cons, List.length_cons, Nat.mul_add, Nat.mul_one]
    omega
theorem all_of (ds : List PyData) (h : ∀ d ∈ ds, d.showable = true ∧ d.hasDict = false ∧ d.depth ≤ 5) : PyData.showableAll ds = true ∧ PyData.hasDictAll ds = false ∧ PyData.depthAll ds ≤ 5 := by
  induction ds with
  | nil => exact ⟨rfl, rfl, Nat.zero_le _⟩
  | cons d r ih =>
    obtain ⟨a, b, c⟩ := h d List.mem_cons_self
    obtain ⟨a', b', c'⟩ := ih fun x hx => h x (List.mem_cons_of_mem _ hx)
    refine ⟨?_, ?_, ?_⟩
    · show (d.showable && PyData.showableAll r) = true
      rw [a, a']; rfl
    · show (d.hasDict || PyData.hasDictAll r) = false
      rw [b, b']; rfl
    · show max d.depth (PyData.depthAll r) ≤ 5
      omega
theorem Sh.facts {d : PyData} (h : Sh d) : d.shown.length ≤ 30 ∧ d.showable = true ∧ d.hasDict = false ∧ d.depth ≤ 5 := by
  rcases h with h | ⟨es, rfl, few, hs⟩
  · exact ⟨Nat.le_trans h.shown (by decide), h.showable, h.noDict.1, by rw [h.noDict.2]; decide⟩
  · have h1 := piled_le 5 es fun d hd => (hs d hd).shown
    have h2 := tuple_len (PyData.shownAll es)
    obtain ⟨a, b, c⟩ := all_of es fun d hd => ⟨(hs d hd).showable, (hs d hd).noDict.1, by rw [(hs d hd).noDict.2]; decide⟩
    refine ⟨?_, a, b, ?_⟩
    · show (tupleText (PyData.shownAll es)).length ≤ 30
      omega
    · have c' : PyData.depthAll es = 0 := by
        clear h1 h2 a b c few
        induction es with
        | nil => rfl
        | cons d r ih =>
          show max d.depth (PyData.depthAll r) = 0
          rw [(hs d List.mem_cons_self).noDict.2, ih fun x hx => hs x (List.mem_cons_of_mem _ hx)]
          rfl
      show PyData.depthAll es + 1 ≤ 5
      omega
/-- what repr asks of a list that is shown -/
def Fine (d : PyData) : Prop := d.showable = true ∧ d.hasDict = false ∧ d.depth ≤ 20 ∧ d.shown.length ≤ sizeLine
theorem fine_list {ds : List PyData} (few : ds.length ≤ 3) (h : ∀ d ∈ ds, Sh d) : Fine (.list ds) := by
  obtain ⟨a, b, c⟩ := all_of ds fun d hd => (h d hd).facts.2
  refine ⟨a, b, by show PyData.depthAll ds + 1 ≤ 20; omega, ?_⟩
  have h1 := piled_le 30 ds fun d hd => (h d hd).facts.1
  have h2 := list_len (PyData.shownAll ds)
  show (listText (PyData.shownAll ds)).length ≤ sizeLine
  exact Nat.le_trans (by omega : _ ≤ 200) (by decide)

/-! ### what evaluates to data -/
section
variable {K : PySem.W.Frag} {σ : L2.St} {H : Hp} {te ta tb : TE} {t : TA}
def EvD (K : PySem.W.Frag) (te : TE) (σ : L2.St) (H : Hp) (d : PyData) : Prop := ∀ H1, Ex H H1 → ∀ Q : VK, (∀ v H2, Ex H1 H2 → Dp K H2 v d → Q v H2) → te σ H1 Q
def EvR (K : PySem.W.Frag) (te : TE) (σ : L2.St) (H : Hp) (d : PyData) : Prop := ∀ H1, Ex H H1 → ∀ Q : VK, (∀ p H2, Ex H1 H2 → Dp K H2 (.ref p) d → Q (.ref p) H2) → te σ H1 Q
def EvDs (K : PySem.W.Frag) (t : TA) (σ : L2.St) (H : Hp) (ds : List PyData) : Prop := ∀ H1, Ex H H1 → ∀ Q : List V → Hp → Prop, (∀ vs H2, Ex H1 H2 → DpAll K H2 vs ds → Q vs H2) → t σ H1 Q
theorem evds_nil : EvDs K tNil σ H [] := fun H1 _ Q q => q [] H1 (Ex.refl H1) .nil
theorem evds_cons {d : PyData} {ds : List PyData} (h : EvD K te σ H d) (hr : EvDs K t σ H ds) : EvDs K (tCons te t) σ H (d :: ds) := fun H1 e Q q =>
  h H1 e _ fun v H2 e2 dv => hr H2 (e.trans e2) _ fun vs H3 e3 dr => q _ H3 (e2.trans e3) (.cons (dp_mono e3 dv) dr)
theorem dps_len {H : Hp} : ∀ {vs : List V} {ds : List PyData}, DpAll K H vs ds → vs.length = ds.length
  | _, _, .nil => rfl
  | _, _, .cons _ b => congrArg (· + 1) (dps_len b)
theorem evr_lst {ds : List PyData} (h : EvDs K t σ H ds) (z : ds.length ≤ 1000) : EvR K (tLst t) σ H (.list ds) := fun H1 e Q q =>
  h H1 e _ fun vs H2 e2 dv => ⟨by rw [dps_len dv]; exact Nat.le_trans z (by decide), fun p hp => q p _ (e2.trans (Ex.new hp)) (.lst (sq_of upd_same) (dps_mono (Ex.new hp) dv))⟩
theorem evd_int {i : Int} (h : Ev te σ H (.int i)) : EvD K te σ H (.int i) := fun H1 e Q q => h H1 e _ fun H2 e2 => q _ H2 e2 (.int i)
theorem evd_bl {b : Bool} (h : Ev te σ H (.bl b)) : EvD K te σ H (.bool b) := fun H1 e Q q => h H1 e _ fun H2 e2 => q _ H2 e2 (.bl b)
/-- what stands for data at every later heap -/
theorem evd_ref {p : Addr} {d : PyData} (h : Ev te σ H (.ref p)) (hd : Dp K H (.ref p) d) : EvD K te σ H d := fun H1 e Q q => h H1 e _ fun H2 e2 => q _ H2 e2 (dp_mono (e.trans e2) hd)
def dInts (as : List Int) : List PyData := as.map PyData.int
theorem dp_ints {H : Hp} : ∀ as : List Int, DpAll K H (as.map V.int) (dInts as)
  | [] => .nil
  | a :: r => .cons (.int a) (dp_ints r)
theorem evd_tup {as : List Int} (h : EvU te σ H (as.map V.int)) : EvD K te σ H (.tuple (dInts as)) := fun H1 e Q q => h H1 e _ fun p H2 _ e2 hp => q _ H2 e2 (.tup (st_of hp) (dp_ints as))
theorem evd_rep2 {d : PyData} (h : EvD K te σ H d) : EvR K (tOp rRep (tLst (tCons te tNil)) (tC (.int 2))) σ H (.list [d, d]) := fun H1 e Q q =>
  h H1 e _ fun v H2 e2 dv => ⟨by show 1 ≤ sizeLine; decide, fun p hp => ⟨p, 2, [v], rfl, rfl, upd_same, by decide, by decide, by show 1 * 2 ≤ sizeLine; decide, fun r hr => by
    have e3 := (Ex.new (o := .lst [v]) hp).trans (Ex.new (o := .lst [v, v]) hr)
    exact q r _ (e2.trans e3) (.lst (sq_of upd_same) (.cons (dp_mono e3 dv) (.cons (dp_mono e3 dv) .nil)))⟩⟩
theorem et_shows {d : PyData} (f : Fine d) (h1 : EvR K ta σ H d) (h2 : EvR K tb σ H d) :
    EvT (tTest (tOp rNe (tCB (rRepr K) (tCons ta tNil)) (tCB (rRepr K) (tCons tb tNil)))) σ H false := fun H1 e Q q =>
  h1 H1 e _ fun p H2 e2 d1 => ⟨p, d, rfl, d1, f.1, f.2.1, f.2.2.1, f.2.2.2, h2 H2 (e.trans e2) _ fun p2 H3 e3 d2 =>
    ⟨p2, d, rfl, d2, f.1, f.2.1, f.2.2.1, f.2.2.2, rfl, false, by rw [decide_eq_true rfl]; rfl, q H3 (e2.trans e3)⟩⟩
/-- a test that fails: on -/
theorem q_pass {D : Ends} {t : TT} {tu tz : TS} (h : EvT t σ H false) (k : ∀ H1, Ex H H1 → tz D σ H1) : tSeq (tIfS t tu tNext) tz D σ H :=
  q_when h (fun z => nomatch z) fun _ => k
theorem s_pass {D : Ends} {t : TT} {tu : TS} (h : EvT t σ H false) (k : ∀ H1, Ex H H1 → D.nx σ H1) : tIfS t tu tNext D σ H :=
  s_when h (fun z => nomatch z) fun _ => k
theorem ev_defK {sp : Sp} {v : V} {vs : List V} (h : EvA t σ H vs) (hs : ∀ H1, Ex H H1 → ∀ Q : VK, (∀ H2, Ex H1 H2 → Q v H2) → sp vs.reverse H1 Q E0) : Ev (tDefK sp t) σ H v :=
  fun H1 e Q q => h H1 e _ fun H2 e2 => hs H2 (e.trans e2) Q fun H3 e3 => q H3 (e2.trans e3)
theorem eu_def {sp : Sp} {xs vs : List V} (h : EvA t σ H vs) (hs : ∀ H1, Ex H H1 → ∀ Q : VK, (∀ p H2, H1 p = none → Ex H1 H2 → H2 p = some (.tup xs) → Q (.ref p) H2) → sp vs H1 Q E0) : EvU (tDef sp t) σ H xs :=
  fun H1 e Q q => h H1 e _ fun H2 e2 => hs H2 (e.trans e2) Q fun p H3 hp e3 h3 => q p H3 (fresh_back e2 hp) (e2.trans e3) h3
theorem eu_defK {sp : Sp} {xs vs : List V} (h : EvA t σ H vs) (hs : ∀ H1, Ex H H1 → ∀ Q : VK, (∀ p H2, H1 p = none → Ex H1 H2 → H2 p = some (.tup xs) → Q (.ref p) H2) → sp vs.reverse H1 Q E0) : EvU (tDefK sp t) σ H xs :=
  fun H1 e Q q => h H1 e _ fun H2 e2 => hs H2 (e.trans e2) Q fun p H3 hp e3 h3 => q p H3 (fresh_back e2 hp) (e2.trans e3) h3
theorem el_def {sp : Sp} {xs vs : List V} (h : EvA t σ H vs) (hs : ∀ H1, Ex H H1 → ∀ Q : VK, (∀ p H2, H1 p = none → Ex H1 H2 → H2 p = some (.lst xs) → Q (.ref p) H2) → sp vs H1 Q E0) : EvL (tDef sp t) σ H xs :=
  fun H1 e Q q => h H1 e _ fun H2 e2 => hs H2 (e.trans e2) Q fun p H3 hp e3 h3 => q p H3 (fresh_back e2 hp) (e2.trans e3) h3
end
end Tv

namespace Tv
open PySem PySem.Spec PyProof.Rows L2
/-! ### the way in and the way out, for a promise that knows the guards -/
section
variable {P : Program} {w : World} {K : PySem.W.Frag} {mg mb : Str → Option Value} {z : Shared} {r : Addr} {us : List Value} {is : List Int} {T : Hp}
/-- the object that the script is -/
abbrev scriptObj (us : List Value) : Obj := { cls := .type "list", data := .seq us.toArray }
/-- tracked: at most the script, and that frozen; and the written part doesn't know it then -/
structure Few (K : PySem.W.Frag) (r : Addr) (T : Hp) : Prop where
  one : ∀ {b}, T b ≠ none → b = r ∧ K.lookup r = none
  frz : ∀ {b u}, T b = some u → ∃ o l, u = .frz o (.lst l)
theorem Few.gone (W : Few K r T) {b : Addr} {o : Obj} (known : K.lookup b = some o) : T b = none := by
  cases hb : T b with
  | none => rfl
  | some u =>
    obtain ⟨eb, nk⟩ := W.one (b := b) (by rw [hb]; intro q; cases q)
    rw [← eb, known] at nk
    cases nk
theorem Few.dict (W : Few K r T) (at_r : z.heap.get? r = some (scriptObj us)) {b : Addr} {o : Obj} {es : Array DictEntry} {ep : Nat}
    (hb : z.heap.get? b = some o) (hd : o.data = .dict es ep) : T b = none := by
  cases ht : T b with
  | none => rfl
  | some u =>
    obtain ⟨rfl, _⟩ := W.one (b := b) (by rw [ht]; intro q; cases q)
    obtain rfl : scriptObj us = o := Option.some.inj (at_r.symm.trans hb)
    exact nomatch (show Data.seq us.toArray _ = Data.dict es ep from hd)
theorem Few.names (W : Few K r T) (at_r : z.heap.get? r = some (scriptObj us)) {b : Addr} {m : Str → Option Value} (h : z.heap.Ns b m) : (hidT z.heap T).Ns b m := by
  obtain ⟨o, es, ep, h1, h2, h3⟩ := h
  exact ⟨o, es, ep, hidT_get h1 (W.dict at_r h1 h2), h2, h3⟩
theorem run_script {sp : Sp} {lev : Nat} {f : Addr} {fd : FuncData} {x : Str} (KZ : K.In z.heap) (gl : z.heap.Ns mainGlobals mg) (bl : z.heap.Ns builtinsNs mb)
    (bb : ∀ y : Str, y ≠ "__name__" → mb y = bootBuiltins y) (nolim : z.heap.NoLimit) (nogen : z.gens = #[]) (at_r : z.heap.get? r = some (scriptObj us))
    (room : Room lev callerA) (bind : ∀ (s : Shared) (v : Value), BindsTo s fd ⟨[v], []⟩ [(x, v)])
    (G : ∀ base : Heap, K.In base → base.Ns mainGlobals mg → FnG P w K mg base lev f fd [x] sp)
    (W : Few K r T) (ok : HOk P w T z.heap) (start : sp [.ref r] T (fun v _ => v = .bl true) fun _ _ _ => False) :
    codeAny (model P w) callerA (.call (.ref f) ⟨[.ref r], []⟩) (fun res s' => res = .ok (.ret (.bool true)) ∧ OldK z.heap s'.heap ∧ s'.os = z.os ∧ AllBare s'.gens) z := by
  have kb : K.In (hidT z.heap T) := fun b o known => hidT_get (KZ b o known) (W.gone known)
  have gb := W.names at_r gl
  obtain ⟨mc, l1, l2⟩ := nolim
  have md : Mod K mg (hidT z.heap T) := ⟨kb, gb, ⟨mb, W.names at_r bl, bb⟩, ⟨mc, W.names at_r l1, l2⟩⟩
  have none_in : ∀ b : Addr, b ∉ ([] : List Addr) := fun b q => nomatch q
  have env : Env0 P w K mg (hidT z.heap T) callerA [] z T :=
    ⟨rfl, md, fun b o q => of_hidT q, Nat.le_of_eq (hidT_size _ _), trivial, fun b q => absurd q (none_in b), ok, .of_eq nogen⟩
  have ran := (G _ kb gb).run callerA [] z T ⟨[.ref r], []⟩ [.ref r] [.ref r] _ _ room rfl env (bind z (.ref r)) (.cons rfl .nil) start
  refine codeAny_mono ran fun res s' got => ?_
  match res, got with
  | .error _, bad => exact bad.elim
  | .ok .next, bad => exact bad.elim
  | .ok .brk, bad => exact bad.elim
  | .ok .cont, bad => exact bad.elim
  | .ok (.ret u), ⟨v, T', same_os, bare, kept, ok', rel, yes0⟩ =>
    have yes' : v = .bl true := yes0
    subst yes'
    have eu : u = .bool true := rel
    rw [eu]
    refine ⟨rfl, OldK.of_keep fun b o hb => ?_, same_os, bare⟩
    cases ht : T b with
    | none => exact kept.keep b o hb ht (none_in b) (by simp)
    | some v' =>
      obtain ⟨o1, l, rfl⟩ := W.frz ht
      have old := (ok b _ ht).1
      rw [hb] at old
      rw [Option.some.inj old]
      exact (ok' b _ (kept.frzs b o1 _ ht)).1
theorem run_law {sp : Sp} {lev : Nat} {f : Addr} {fd : FuncData} {x : Str} (KZ : K.In z.heap) (gl : z.heap.Ns mainGlobals mg) (bl : z.heap.Ns builtinsNs mb)
    (bb : ∀ y : Str, y ≠ "__name__" → mb y = bootBuiltins y) (nolim : z.heap.NoLimit) (nogen : z.gens = #[]) (at_r : z.heap.get? r = some (scriptObj us))
    (nums : IntsAre us is) (few : is.length ≤ sizeLine)
    (room : Room lev callerA) (bind : ∀ (s : Shared) (v : Value), BindsTo s fd ⟨[v], []⟩ [(x, v)])
    (G : ∀ base : Heap, K.In base → base.Ns mainGlobals mg → FnG P w K mg base lev f fd [x] sp)
    (start : ∀ T : Hp, SqL K T r (is.map V.int) → sp [.ref r] T (fun v _ => v = .bl true) fun _ _ _ => False) :
    codeAny (model P w) callerA (.call (.ref f) ⟨[.ref r], []⟩) (fun res s' => res = .ok (.ret (.bool true)) ∧ OldK z.heap s'.heap ∧ s'.os = z.os ∧ AllBare s'.gens) z := by
  have vals : Vals (is.map V.int) us := vals_ints nums
  have as_many := nums.length
  cases known : K.lookup r with
  | some o =>
    have eo : scriptObj us = o := Option.some.inj (at_r.symm.trans (KZ r o known))
    subst eo
    refine run_script (T := fun _ => none) KZ gl bl bb nolim nogen at_r room bind G ⟨fun q => absurd rfl q, fun q => nomatch q⟩ (fun b u q => nomatch q) (start _ (.inr ⟨_, us.toArray, _, known, rfl, rfl, rfl, ?_, ?_⟩))
    · rw [List.size_toArray, as_many]
      exact few
    · simpa using vals
  | none =>
    have here : ∀ {b : Addr} {u : HO}, (if b = r then some (HO.frz (scriptObj us) (.lst (is.map V.int))) else none) = some u → b = r ∧ u = .frz (scriptObj us) (.lst (is.map V.int)) := fun {b u} q => by
      by_cases eb : b = r
      · rw [if_pos eb] at q
        exact ⟨eb, (Option.some.inj q).symm⟩
      · rw [if_neg eb] at q
        cases q
    refine run_script (T := fun b => if b = r then some (.frz (scriptObj us) (.lst (is.map V.int))) else none) KZ gl bl bb nolim nogen at_r room bind G ⟨fun {b} q => ?_, fun {b u} q => ?_⟩ (fun b u q => ?_)
      (start _ (.inl (.inr ⟨scriptObj us, if_pos rfl⟩)))
    · by_cases eb : b = r
      · exact ⟨eb, known⟩
      · exact absurd (if_neg eb) q
    · exact ⟨_, _, (here q).2⟩
    · obtain ⟨rfl, rfl⟩ := here q
      exact ⟨at_r, by rw [List.length_map]; exact few, us, _, vals, at_r⟩
end
/-- a row's end, from the promise of its law -/
theorem ends {l : PySem.W.OpenLaw} {q : Program} {loose : List Str} {XP : (Str → Option Value) → Heap → Prop} {YP : World → Heap → Prop} {d : DefRec} {K : Params → PySem.W.Frag} {lev : Nat} {x : Str} {sp : PySem.W.Frag → Sp}
    (size : l.most = some 63) (nodef : d.params.defaults = []) (room : Room lev callerA) (inY : ∀ (w : World) (h : Heap), YP w h → (K w.params).In h)
    (G : ∀ (w : World) (mg : Str → Option Value) (f : Addr) (h : Heap), (K w.params).In h → h.Ns mainGlobals mg → mg d.name = some (.ref f) →
      ∃ fd : FuncData, (∀ (s : Shared) (v : Value), BindsTo s fd ⟨[v], []⟩ [(x, v)]) ∧ ∀ base : Heap, (K w.params).In base → base.Ns mainGlobals mg → FnG l.prog w (K w.params) mg base lev f fd [x] (sp (K w.params)))
    (start : ∀ (K : PySem.W.Frag) (T : Hp) (r : Addr) (is : List Int), is.length ≤ 63 → SqL K T r (is.map V.int) → sp K [.ref r] T (fun v _ => v = .bl true) fun _ _ _ => False) :
    PySem.W.WalkO q loose XP YP l.row.toRowW d [] (fun g vs => PySem.call g vs) := by
  refine Att.attach_call size nodef fun w _ z mg mb f _ _ _ _ r us is H Y _ _ _ named at_r nums few nogen => ?_
  have KZ := inY w _ Y
  obtain ⟨fd, bind, F⟩ := G w mg f _ KZ H.T.g named
  exact run_law KZ H.T.g H.T.b H.T.builtins H.T.nolimit nogen at_r nums (Nat.le_trans few (by decide)) room bind F fun T S => start _ T r is few S
end Tv

namespace Tv
open PySem PySem.Spec PyProof.Rows L2 Evl
def top (i : Nat) : Stmt := PySem.Challenge.pw_threevalues_k02_whole_tables_read.main.body.getD i (.Pass ⟨0, 0, 0, 0⟩)
section
variable {P : Program} {w : World} {K : PySem.W.Frag} {mg : Str → Option Value} {base : Heap} {f : Addr} {fd : FuncData}

/-! ### where draws come from -/
/-- all but what stands at p is as it was -/
def But (p : Addr) (H H' : Hp) : Prop := ∀ b o, b ≠ p → H b = some o → H' b = some o
theorem But.trans {p : Addr} {H H1 H2 : Hp} (a : But p H H1) (b : But p H1 H2) : But p H H2 := fun c o n e => b c o n (a c o n e)
theorem But.of {p : Addr} {H H' : Hp} (e : Ex H H') : But p H H' := fun b o _ h => e b o h
theorem But.upd {p : Addr} {H : Hp} {o : HO} : But p H (upd H p o) := fun b u n e => by rw [upd_ne n]; exact e
/-- a spring at p -/
def Spr (H : Hp) (p : Addr) : Prop := ∃ x m c : Int, H p = some (.lst [.int x, .int m, .int c]) ∧ 0 ≤ x ∧ 0 ≤ m ∧ m < 2147483647
def spDraw : Sp := fun vs H Q _ => ∃ (p : Addr) (n : Int), vs = [.ref p, .int n] ∧ Spr H p ∧ 0 < n ∧ n ≤ 1000000 ∧
  ∀ (d : Int) (H' : Hp), 0 ≤ d → d < n → Spr H' p → But p H H' → Q (.int d) H'
abbrev slaw_draw : Stmt := top 26
abbrev Nlaw_draw : List Str := ["spring", "size", "digit", "far", "mixed"]
theorem sclaw_draw : FnScope Nlaw_draw ["spring", "size"] (defScope slaw_draw) := ⟨rfl, rfl, rfl, by decide +kernel, rfl, by decide +kernel, by decide +kernel⟩
theorem ok_draw (F : Fun K "_law_draw" "_law_draw" slaw_draw f fd) (B : Blt mg) : FnG P w K mg base 1 f fd ["spring", "size"] spDraw := by
  refine fnG F sclaw_draw (fun vs H Q E h => ?_) (fun cdv A fr s H vs Q E hr gd h => ?_)
  · obtain ⟨p, n, rfl, _⟩ := h
    rfl
  · obtain ⟨p, n, rfl, ⟨x, m, c, hp, x0, m0, m1⟩, n0, n1, k⟩ := h
    refine ⟨_, (pss_cons (ps_asg (pe_op op_add (pe_ix ix_list (pv 0) pe_int (fun _ _ => rfl)) pe_int) (pg_sub (pv 0) pe_int set_list))
  (pss_cons (ps_asg (pe_op op_mod (pe_callTy call_int1 (by rfl) B.m_int (by decide +kernel) (pa_cons (pe_op op_add (pe_op op_add (pe_op op_mul (pe_ix ix_list (pv 0) pe_int (fun _ _ => rfl)) pe_int) (pe_op op_mul pe_int (pe_ix ix_list (pv 0) pe_int (fun _ _ => rfl)))) pe_int) pa_nil)) pe_int) (pg_sub (pv 0) pe_int set_list))
  (pss_cons (ps_if (pt_cmpR op_gt (pe_ix ix_list (pv 0) pe_int (fun _ _ => rfl)) pe_int (nomark _)) (pss_cons (ps_asg (pe_callB call_divmod (by rfl) B.m_divmod (by decide +kernel) (pa_cons (pe_ix ix_list (pv 0) pe_int (fun _ _ => rfl)) (pa_cons (pv 1) pa_nil))) (pg_tup rfl (pgs_cons (pg_sub (pv 0) pe_int set_list) (pgs_cons (pg_name (i := 2) sclaw_draw.nd rfl (Or.inl rfl)) pgs_nil))))
  (pss_one (ps_ret (pv 2)))) pss_nil)
  (pss_cons (ps_set (i := 3) sclaw_draw.nd rfl (Or.inl rfl) (pe_op op_add (pe_ix ix_list (pv 0) pe_int (fun _ _ => rfl)) pe_int))
  (pss_cons (ps_set (i := 4) sclaw_draw.nd rfl (Or.inl rfl) (pe_op op_mod (pe_callTy call_int1 (by rfl) B.m_int (by decide +kernel) (pa_cons (pe_op op_add (pe_op op_mul (pv 3) (pe_ix ix_list (pv 0) pe_int (fun _ _ => rfl))) (pe_ix ix_list (pv 0) pe_int (fun _ _ => rfl))) pa_nil)) pe_int))
  (pss_one (ps_ret (pe_op op_mod (pe_callTy call_int1 (by rfl) B.m_int (by decide +kernel) (pa_cons (pe_op op_fdiv (pv 4) pe_int) pa_nil)) (pv 1))))))))), ?_⟩
    have a2 : ∀ y z v : V, atI [y, z, v] 2 = some v := fun _ _ _ => rfl
    have a1 : ∀ y z v : V, atI [y, z, v] 1 = some z := fun _ _ _ => rfl
    have a0 : ∀ y z v : V, atI [y, z, v] 0 = some y := fun _ _ _ => rfl
    -- spring[2] = spring[2] + 1
    refine ⟨_, rfl, p, _, 2, _, rfl, rfl, SqL.of hp, a2 _ _ _, c, 1, rfl, rfl, _, rfl, p, _, 2, 2, rfl, rfl, hp, rfl, ?_⟩
    -- spring[1] = ..
    refine ⟨_, rfl, p, _, 1, _, rfl, rfl, SqL.of upd_same, a1 _ _ _, m, _, rfl, rfl, Or.inr ⟨by decide, by decide⟩, _, rfl, p, _, 2, _, rfl, rfl, SqL.of upd_same, a2 _ _ _, _, _, rfl, rfl, Or.inl ⟨by decide, by decide⟩, _, _, rfl, rfl, _, _, rfl, rfl, .inl ⟨_, rfl, _, _, rfl, rfl, (by show (0 : Int) < 2147483647; decide), _, rfl, p, _, 1, 1, rfl, rfl, upd_same, rfl, ?_⟩⟩
    -- if spring[0] > 0
    refine ⟨_, rfl, p, _, 0, _, rfl, rfl, SqL.of upd_same, a0 _ _ _, x, 0, rfl, rfl, _, rfl, ?_⟩
    refine ite2 (fun hx => ?_) (fun hx => ?_)
    · -- spring[0], digit = divmod(spring[0], size); return digit
      refine ⟨_, rfl, p, _, 0, _, rfl, rfl, SqL.of upd_same, a0 _ _ _, _, rfl, x, n, rfl, ⟨n0, by omega⟩, fun q hq => ?_⟩
      have np : p ≠ q := ne_of_none upd_same hq
      refine ⟨q, _, rfl, SqT.of upd_same, rfl, _, _, rfl, _, rfl, p, _, 0, 0, rfl, rfl, (by rw [upd_ne np]; exact upd_same), rfl, _, _, rfl, rfl, ?_⟩
      refine ⟨_, rfl, ?_⟩
      have d0 : 0 ≤ x % n := Int.emod_nonneg _ (by omega)
      have d1 : x % n < n := Int.emod_lt_of_pos _ n0
      have e0 : 0 ≤ x / n := Int.ediv_nonneg x0 (by omega)
      have g0 : 0 ≤ (m * 69621 + 40503 * (c + 1) + 1) % 2147483647 := Int.emod_nonneg _ (by decide)
      have g1 : (m * 69621 + 40503 * (c + 1) + 1) % 2147483647 < 2147483647 := Int.emod_lt_of_pos _ (by decide)
      refine k (x % n) _ d0 d1 ⟨_, _, _, upd_same, e0, g0, g1⟩ ?_
      intro b o nb e
      rw [upd_ne nb, upd_ne (ne_of_none (H := upd (upd H p _) p _) (by rw [upd_ne nb, upd_ne nb]; exact e) hq), upd_ne nb, upd_ne nb]
      exact e
    · -- far = ..; mixed = ..; return ..
      refine ⟨_, rfl, p, _, 1, _, rfl, rfl, SqL.of upd_same, a1 _ _ _, _, _, rfl, rfl, ?_⟩
      have g0 : 0 ≤ (m * 69621 + 40503 * (c + 1) + 1) % 2147483647 := Int.emod_nonneg _ (by decide)
      have g1 : (m * 69621 + 40503 * (c + 1) + 1) % 2147483647 < 2147483647 := Int.emod_lt_of_pos _ (by decide)
      refine ⟨_, rfl, _, rfl, p, _, 1, _, rfl, rfl, SqL.of upd_same, a1 _ _ _, _, _, rfl, rfl, Or.inr ⟨by show -(2 ^ 64) < (m * 69621 + 40503 * (c + 1) + 1) % 2147483647; omega, by show (m * 69621 + 40503 * (c + 1) + 1) % 2147483647 < 2 ^ 64; omega⟩, _, rfl, p, _, 2, _, rfl, rfl, SqL.of upd_same, a2 _ _ _, _, _, rfl, rfl, .inl ⟨_, rfl, _, _, rfl, rfl, (by show (0 : Int) < 2147483629; decide), ?_⟩⟩
      refine ⟨_, rfl, _, _, rfl, rfl, ⟨by decide, by decide⟩, .inl ⟨_, rfl, _, rfl, _, n, rfl, rfl, n0, ?_⟩⟩
      refine k _ _ (Int.emod_nonneg _ (by omega)) (Int.emod_lt_of_pos _ n0) ⟨_, _, _, upd_same, x0, g0, g1⟩ ?_
      intro b o nb e
      rw [upd_ne nb, upd_ne nb]
      exact e
/-- one of a menu -/
def spOf (K : PySem.W.Frag) : Sp := fun vs H Q _ => ∃ (p a : Addr) (xs : List V), vs = [.ref p, .ref a] ∧ a ≠ p ∧ Spr H p ∧ SqL K H a xs ∧ xs ≠ [] ∧
  xs.length ≤ 1000000 ∧ ∀ (v : V) (H' : Hp), v ∈ xs → Spr H' p → But p H H' → Q v H'
abbrev slaw_of : Stmt := top 27
abbrev Nlaw_of : List Str := ["spring", "menu"]
theorem sclaw_of : FnScope Nlaw_of ["spring", "menu"] (defScope slaw_of) := ⟨rfl, rfl, rfl, by decide +kernel, rfl, by decide +kernel, by decide +kernel⟩
theorem seq_but {p a : Addr} {H H' : Hp} {xs : List V} (b : But p H H') (ne : a ≠ p) (h : SqL K H a xs) : SqL K H' a xs := by
  rcases h with (h | ⟨o, h⟩) | h
  · exact .inl (.inl (b _ _ ne h))
  · exact .inl (.inr ⟨o, b _ _ ne h⟩)
  · exact .inr h
theorem ok_of (F : Fun K "_law_of" "_law_of" slaw_of f fd) (B : Blt mg) (D__law_draw : DefG P w K mg base "_law_draw" ["spring", "size"] 1 spDraw) :
    FnG P w K mg base 2 f fd ["spring", "menu"] (spOf K) := by
  refine fnG F sclaw_of (fun vs H Q E h => ?_) (fun cdv A fr s H vs Q E hr gd h => ?_)
  · obtain ⟨p, a, xs, rfl, _⟩ := h
    rfl
  · obtain ⟨p, a, xs, rfl, nap, S, hS, ne, many, k⟩ := h
    have some_ : 0 < xs.length := List.length_pos_iff.mpr ne
    refine ⟨_, (pss_one (ps_ret (pe_ix ix_list (pv 1) (pe_def D__law_draw (hr.mono (by decide)) gd rfl (pa_cons (pv 0) (pa_cons (pe_callB call_len (by rfl) B.m_len (by decide +kernel) (pa_cons (pv 1) pa_nil)) pa_nil))) (fun _ _ => rfl)))), ?_⟩
    refine ⟨_, rfl, _, rfl, _, rfl, .ref a, xs.length, rfl, Or.inl ⟨xs, hS, rfl⟩, ?_⟩
    refine ⟨p, _, rfl, S, by omega, by omega, fun d H' d0 d1 S' bt => ?_⟩
    have lt : d.toNat < xs.length := by omega
    have e1 : xs[d.toNat]? = some xs[d.toNat] := List.getElem?_eq_getElem lt
    refine ⟨a, xs, d, _, rfl, rfl, seq_but bt nap hS, at_of (j := d.toNat) (by omega) e1, ?_⟩
    exact k _ H' (List.mem_of_getElem? e1) S' bt
/-- the springs -/
def spSpring (K : PySem.W.Frag) : Sp := fun vs H Q _ => ∃ (a : Addr) (ns : List Int) (n : Int), vs = [.ref a, .int n] ∧ SqL K H a (ns.map V.int) ∧
  ns.length ≤ 63 ∧ 0 ≤ n ∧ n ≤ 10 ∧ ∀ (p : Addr) (H' : Hp), H p = none → Ex H H' → Spr H' p → Q (.ref p) H'
abbrev slaw_spring : Stmt := top 25
abbrev Nlaw_spring : List Str := ["cells", "k", "cell", "mixed", "number"]
theorem sclaw_spring : FnScope Nlaw_spring ["cells", "k"] (defScope slaw_spring) := ⟨rfl, rfl, rfl, by decide +kernel, rfl, by decide +kernel, by decide +kernel⟩
theorem ok_spring (F : Fun K "_law_spring" "_law_spring" slaw_spring f fd) (B : Blt mg) : FnG P w K mg base 1 f fd ["cells", "k"] (spSpring K) := by
  refine fnG F sclaw_spring (fun vs H Q E h => ?_) (fun cdv A fr s H vs Q E hr gd h => ?_)
  · obtain ⟨p, n, m, rfl, _⟩ := h
    rfl
  · obtain ⟨a, ns, n, rfl, hS, many, n0, n1, k⟩ := h
    refine ⟨_, (Evl.pss_cut (ps_set (i := 2) sclaw_spring.nd rfl (Or.inl rfl) (pe_ifExp (pt_cmpR op_lt (pv 1) (pe_callB call_len (by rfl) B.m_len (by decide +kernel) (pa_cons (pv 0) pa_nil)) (nomark _)) (pe_ix ix_list (pv 0) (pv 1) (fun _ _ => rfl)) (pe_op op_add (pe_op op_mul pe_int (pv 1)) pe_int)))
  (pss_cons (ps_set (i := 3) sclaw_spring.nd rfl (Or.inl rfl) (pe_op op_add pe_int (pe_op op_mul pe_int (pv 1))))
  (pss_cons (ps_for PassesOwn.never rfl (pi_list (pe_op op_cat (pe_slice sl_list (pv 0) po_none (po_some pe_int)) (pe_lst (pa_cons (pv 2) pa_nil)))) (pg_name (i := 4) sclaw_spring.nd rfl (Or.inl rfl)) (pss_one (ps_set (i := 3) sclaw_spring.nd rfl (Or.inl rfl) (pe_op op_mod (pe_callTy call_int1 (by rfl) B.m_int (by decide +kernel) (pa_cons (pe_op op_add (pe_op op_add (pe_op op_mul (pv 3) pe_int) (pe_callTy call_int1 (by rfl) B.m_int (by decide +kernel) (pa_cons (pv 4) pa_nil))) (pe_op op_mul pe_int (pv 1))) pa_nil)) pe_int))))
  (pss_one (ps_ret (pe_lst (pa_cons (pe_ifExp (PW.pt (pw_or (pt_cmpR op_lt (pv 2) pe_int (nomark _)) (pw_or1 (pt_cmpR op_ge (pv 2) (pe_op op_pow pe_int pe_int) (nomark _))))) (pe_callB call_abs (by rfl) B.m_abs (by decide +kernel) (pa_cons (pv 2) pa_nil)) pe_int) (pa_cons (pv 3) (pa_cons pe_int pa_nil))))))))), ?_⟩
    -- cell
    refine ⟨fun σ H1 => H1 = H ∧ ∃ cell : Int, σ = [some (.ref a), some (.int n), some (.int cell), none, none], ?_, ?_⟩
    · refine ⟨_, rfl, _, rfl, _, _, rfl, Or.inl ⟨_, hS, rfl⟩, n, _, rfl, rfl, _, rfl, ?_⟩
      rw [List.length_map]
      by_cases c : n < (ns.length : Int)
      · rw [decide_eq_true c]
        refine iteT ⟨_, rfl, _, rfl, a, _, n, .int (ns.getD n.toNat 0), rfl, rfl, hS, at_of (j := n.toNat) (by omega) ?_, rfl, _, rfl⟩
        have lt : n.toNat < ns.length := by omega
        simp [List.getD_eq_getElem?_getD, lt]
      · rw [decide_eq_false c]
        exact iteF ⟨_, rfl, _, _, rfl, rfl, Or.inl ⟨by decide, by decide⟩, _, _, rfl, rfl, rfl, _, rfl⟩
    rintro σ H1 ⟨rfl, cell, rfl⟩
    -- mixed; the loop
    refine ⟨_, rfl, _, _, rfl, rfl, Or.inl ⟨by decide, by decide⟩, _, _, rfl, rfl, ?_⟩
    refine ⟨_, rfl, 8, rfl, a, _, rfl, hS, fun q hq => ?_⟩
    have fst : cutV (ns.map V.int) none (some 8) = (ns.take 8).map V.int := by
      unfold cutV
      rw [HT.sIx_none, show (8 : Int) = ((8 : Nat) : Int) from rfl, HT.sIx_nat, List.drop_zero, List.length_map, Nat.sub_zero, List.map_take, ← List.map_take, ← List.map_take]
      congr 1
      by_cases h8 : 8 ≤ ns.length
      · rw [Nat.min_eq_left h8]
      · rw [Nat.min_eq_right (by omega), List.take_of_length_le (Nat.le_refl _), List.take_of_length_le (by omega)]
    rw [fst]
    refine ⟨_, rfl, (by show 1 ≤ sizeLine; decide), fun q2 hq2 => ?_⟩
    have nq : q ≠ q2 := ne_of_none upd_same hq2
    refine ⟨q, q2, _, _, rfl, rfl, (by rw [upd_ne nq]; exact upd_same), upd_same, ?_, fun q3 hq3 => ?_⟩
    · rw [List.length_map, List.length_take]
      have : min 8 ns.length + 1 ≤ 9 := by omega
      exact Nat.le_trans this (by decide)
    have e3 : (ns.take 8).map V.int ++ [V.int cell] = (ns.take 8 ++ [cell]).map V.int := by rw [List.map_append]; rfl
    rw [e3]
    have ex : ∀ b o, H1 b = some o → upd (upd (upd H1 q (.lst ((ns.take 8).map V.int))) q2 (.lst [V.int cell])) q3 (.lst ((ns.take 8 ++ [cell]).map V.int)) b = some o := fun b o e => by
      have e1 : upd H1 q (.lst ((ns.take 8).map V.int)) b = some o := by rw [upd_ne (ne_of_none e hq)]; exact e
      have e2 : upd (upd H1 q (.lst ((ns.take 8).map V.int))) q2 (.lst [V.int cell]) b = some o := by rw [upd_ne (ne_of_none e1 hq2)]; exact e1
      rw [upd_ne (ne_of_none e2 hq3)]
      exact e2
    refine ⟨q3, rfl, ⟨_, SqL.of upd_same⟩, for_list (K := K) (a := q3) (xs := (ns.take 8 ++ [cell]).map V.int)
      (fun i σ H2 => H2 = upd (upd (upd H1 q (.lst ((ns.take 8).map V.int))) q2 (.lst [V.int cell])) q3 (.lst ((ns.take 8 ++ [cell]).map V.int)) ∧
        ∃ (m : Int) (v : Option V), σ = [some (.ref a), some (.int n), some (.int cell), some (.int m), v] ∧ 0 ≤ m ∧ m < 2147483647)
      ⟨rfl, _, none, rfl, by omega, by omega⟩ (fun i σ H2 _ ⟨e, _⟩ => by rw [e]; exact SqL.of upd_same) ?_ ?_⟩
    · rintro i y σ H2 hi ⟨rfl, m, v, rfl, m0, m1⟩
      obtain ⟨z, rfl⟩ : ∃ z, y = V.int z := by
        rw [List.getElem?_map] at hi
        cases e : (ns.take 8 ++ [cell])[i]? with
        | none => rw [e] at hi; cases hi
        | some z => rw [e] at hi; exact ⟨z, (Option.some.inj hi).symm⟩
      refine ⟨_, rfl, _, _, rfl, rfl, Or.inr ⟨by decide, by decide⟩, _, rfl, .inl ⟨_, rfl, _, _, rfl, rfl, _, rfl, _, _, rfl, rfl, Or.inl ⟨by decide, by decide⟩, _, _, rfl, rfl, .inl ⟨_, rfl, _, _, rfl, rfl, (by show (0 : Int) < 2147483647; decide), ?_⟩⟩⟩
      exact ⟨rfl, _, _, rfl, Int.emod_nonneg _ (by decide), Int.emod_lt_of_pos _ (by decide)⟩
    · rintro σ H2 ⟨rfl, m, v, rfl, m0, m1⟩
      have fin : ∀ (z : Int), 0 ≤ z → ∀ (r : Addr), upd (upd (upd H1 q (.lst ((ns.take 8).map V.int))) q2 (.lst [V.int cell])) q3 (.lst ((ns.take 8 ++ [cell]).map V.int)) r = none →
          Q (.ref r) (upd (upd (upd (upd H1 q (.lst ((ns.take 8).map V.int))) q2 (.lst [V.int cell])) q3 (.lst ((ns.take 8 ++ [cell]).map V.int))) r (.lst [V.int z, V.int m, V.int 0])) := fun z z0 r hr =>
        k r _ (fresh_back ex hr) (fun b o e => by rw [upd_ne (ne_of_none (ex b o e) hr)]; exact ex b o e) ⟨_, _, _, upd_same, z0, m0, m1⟩
      have big : (fun i j : Int => V.int (i ^ j.toNat)) 10 18 = V.int 1000000000000000000 := by decide
      refine ⟨_, rfl, _, _, rfl, rfl, _, rfl, ?_⟩
      by_cases c1 : cell < 0
      · rw [decide_eq_true c1]
        refine iteT (iteT ⟨_, rfl, _, rfl, _, rfl, (by show 3 ≤ sizeLine; decide), fun r hr => ?_⟩)
        rw [if_pos c1]
        exact fin _ (by omega) r hr
      · rw [decide_eq_false c1]
        refine iteF ⟨_, rfl, _, _, rfl, rfl, ⟨by decide, by decide, by decide⟩, _, _, rfl, rfl, _, rfl, ?_⟩
        refine ite2 (fun c2 => ?_) (fun c2 => ?_)
        · refine ⟨_, rfl, _, rfl, _, rfl, (by show 3 ≤ sizeLine; decide), fun r hr => ?_⟩
          rw [if_neg c1]
          exact fin _ (by omega) r hr
        · exact ⟨_, rfl, (by show 3 ≤ sizeLine; decide), fun r hr => fin 0 (Int.le_refl 0) r hr⟩
end
end Tv

namespace Tv
open PySem PySem.Spec PyProof.Rows L2 Evl
section
variable {P : Program} {w : World} {K : PySem.W.Frag} {mg : Str → Option Value} {base : Heap} {f aL : Addr} {fd : FuncData}
/-- gives v back, all tracked stays -/
abbrev Gives (v : V) (H : Hp) (Q : VK) : Prop := ∀ H', Ex H H' → Q v H'
/-- gives a new tuple of xs back -/
abbrev GivesT (xs : List V) (H : Hp) (Q : VK) : Prop := ∀ p H', H p = none → Ex H H' → H' p = some (.tup xs) → Q (.ref p) H'
/-- the module's LENGTHS -/
structure Lens (K : PySem.W.Frag) (mg : Str → Option Value) (aL : Addr) : Prop where
  mL : mg "LENGTHS" = some (.ref aL)
  lk : ∃ (o : Obj) (its : Array Value) (n : Nat), K.lookup aL = some o ∧ o.cls = .type "tuple" ∧ o.dict = none ∧ o.data = .seq its n ∧
    its.size ≤ sizeLine ∧ Vals [.int 3, .int 9, .int 27] its.toList
theorem Lens.sL (L : Lens K mg aL) (H : Hp) : SqT K H aL [.int 3, .int 9, .int 27] := by
  obtain ⟨o, its, n, h1, h2, h3, h4, h5, h6⟩ := L.lk
  exact Or.inr ⟨o, its, n, h1, h2, h4, h5, h6⟩
theorem Lens.ty (L : Lens K mg aL) (H : Hp) : tyV K "tuple" (.ref aL) H := by
  obtain ⟨o, its, n, h1, h2, h3, h4, h5, h6⟩ := L.lk
  exact Or.inr (Or.inl ⟨rfl, o, h1, h2, h3⟩)

abbrev sis_integer : Stmt := top 6
abbrev Nis_integer : List Str := ["x"]
theorem scis_integer : FnScope Nis_integer ["x"] (defScope sis_integer) := ⟨rfl, rfl, rfl, by decide +kernel, rfl, by decide +kernel, by decide +kernel⟩
def spIsInt : Sp := fun vs H Q _ => ∃ i : Int, vs = [.int i] ∧ Gives (.bl true) H Q
theorem ok_is_integer (F : Fun K "is_integer" "is_integer" sis_integer f fd) (B : Blt mg) : FnG P w K mg base 1 f fd ["x"] spIsInt := by
  refine fnG F scis_integer (fun vs H Q E h => ?_) (fun cdv A fr s H vs Q E hr gd h => ?_)
  · obtain ⟨i, rfl, _⟩ := h
    rfl
  · obtain ⟨i, rfl, k⟩ := h
    refine ⟨_, (pss_one (ps_ret (pe_and (pe_callB call_isi (by rfl) B.m_isinstance (by decide +kernel) (pa_cons (pv 0) (pa_cons (pe_bltn (v := .ty "int") rfl B.m_int (by decide +kernel) rfl) pa_nil))) (pe_one (pe_not (pe_callB call_isi (by rfl) B.m_isinstance (by decide +kernel) (pa_cons (pv 0) (pa_cons (pe_bltn (v := .ty "bool") rfl B.m_bool (by decide +kernel) rfl) pa_nil)))))))), ?_⟩
    refine ⟨_, rfl, .int i, .ty "int", _, _, true, rfl, .ty _, .base (.int i), kit_ty (by decide +kernel), true, rfl, iteT ?_⟩
    refine ⟨_, rfl, .int i, .ty "bool", _, _, false, rfl, .ty _, .base (.int i), kit_ty (by decide +kernel), false, rfl, ?_⟩
    exact k H (Ex.refl H)
abbrev sis_index : Stmt := top 7
abbrev Nis_index : List Str := ["x", "count"]
theorem scis_index : FnScope Nis_index ["x", "count"] (defScope sis_index) := ⟨rfl, rfl, rfl, by decide +kernel, rfl, by decide +kernel, by decide +kernel⟩
def spIsIndex : Sp := fun vs H Q _ => ∃ a c : Nat, a < c ∧ vs = [.int (a : Int), .int (c : Int)] ∧ Gives (.bl true) H Q
theorem ok_is_index (F : Fun K "is_index" "is_index" sis_index f fd) (B : Blt mg) (D_is_integer : DefG P w K mg base "is_integer" ["x"] 1 spIsInt) : FnG P w K mg base 2 f fd ["x", "count"] spIsIndex := by
  refine fnG F scis_index (fun vs H Q E h => ?_) (fun cdv A fr s H vs Q E hr gd h => ?_)
  · obtain ⟨a, c, _, rfl, _⟩ := h
    rfl
  · obtain ⟨a, c, ac, rfl, k⟩ := h
    refine ⟨_, (pss_one (ps_ret (pe_and (pe_def D_is_integer (hr.mono (by decide)) gd rfl (pa_cons (pv 0) pa_nil)) (pe_one (pe_chain op_le op_lt pe_int (pv 0) (pv 1)))))), ?_⟩
    refine ⟨_, rfl, _, rfl, fun H1 e1 => ⟨true, rfl, iteT ?_⟩⟩
    refine ⟨_, rfl, _, _, rfl, rfl, true, congrArg V.bl (decide_eq_true (by omega : (0 : Int) ≤ (a : Int))), iteT ?_⟩
    refine ⟨_, rfl, _, _, rfl, rfl, ?_⟩
    show Q (.bl (decide ((a : Int) < (c : Int)))) H1
    rw [decide_eq_true (by omega)]
    exact k H1 e1
abbrev sis_value : Stmt := top 8
abbrev Nis_value : List Str := ["x"]
theorem scis_value : FnScope Nis_value ["x"] (defScope sis_value) := ⟨rfl, rfl, rfl, by decide +kernel, rfl, by decide +kernel, by decide +kernel⟩
def spIsValue : Sp := fun vs H Q _ => ∃ a : Nat, a < 3 ∧ vs = [.int (a : Int)] ∧ Gives (.bl true) H Q
theorem ok_is_value (F : Fun K "is_value" "is_value" sis_value f fd) (B : Blt mg) (D_is_index : DefG P w K mg base "is_index" ["x", "count"] 2 spIsIndex) : FnG P w K mg base 3 f fd ["x"] spIsValue := by
  refine fnG F scis_value (fun vs H Q E h => ?_) (fun cdv A fr s H vs Q E hr gd h => ?_)
  · obtain ⟨a, _, rfl, _⟩ := h
    rfl
  · obtain ⟨a, a3, rfl, k⟩ := h
    refine ⟨_, (pss_one (ps_ret (pe_def D_is_index (hr.mono (by decide)) gd rfl (pa_cons (pv 0) (pa_cons pe_int pa_nil))))), ?_⟩
    exact s_ret (ev_def (ea_cons (ev_var rfl) (ea_cons ev_c ea_nil)) fun H1 _ Q q => ⟨a, 3, a3, rfl, q⟩) k
abbrev sare_arguments : Stmt := top 9
abbrev Nare_arguments : List Str := ["x", "count", "y"]
theorem scare_arguments : FnScope Nare_arguments ["x", "count"] (defScope sare_arguments) := ⟨rfl, rfl, rfl, by decide +kernel, rfl, by decide +kernel, by decide +kernel⟩
def spAreArgs : Sp := fun vs H Q _ => ∃ (p : Addr) (as : List Nat), vs = [.ref p, .int (as.length : Nat)] ∧ H p = some (.tup (iv as)) ∧
  (∀ a ∈ as, a < 3) ∧ as.length ≤ 3 ∧ Gives (.bl true) H Q
theorem ok_are_arguments (F : Fun K "are_arguments" "are_arguments" sare_arguments f fd) (B : Blt mg) (D_is_value : DefG P w K mg base "is_value" ["x"] 3 spIsValue) : FnG P w K mg base 4 f fd ["x", "count"] spAreArgs := by
  refine fnG F scare_arguments (fun vs H Q E h => ?_) (fun cdv A fr s H vs Q E hr gd h => ?_)
  · obtain ⟨p, as, rfl, _⟩ := h
    rfl
  · obtain ⟨p, as, rfl, hp, hd, few, k⟩ := h
    refine ⟨_, (pss_one (ps_ret (pe_and (pe_callB call_isi (by rfl) B.m_isinstance (by decide +kernel) (pa_cons (pv 0) (pa_cons (pe_bltn (v := .ty "tuple") rfl B.m_tuple (by decide +kernel) rfl) pa_nil))) (pe_and (pe_cmpR op_eq (pe_callB call_len (by rfl) B.m_len (by decide +kernel) (pa_cons (pv 0) pa_nil)) (pv 1) (nomark _)) (pe_one (pe_callB (cr_all rfl) (by rfl) B.m_all (by decide +kernel) (pa_cons (pe_lc (own := [("y", 2)]) (g := gName 2) rfl scare_arguments.nd (pi_tup (pv 0)) (blkOk_by (own := [("y", 2)]) (N := Nare_arguments) (sc := defScope sare_arguments) (by decide +kernel)) (fun _ _ _ _ _ => (pg_name (i := 2) scare_arguments.nd rfl (Or.inl rfl))) (fun _ _ _ _ _ => pts_nil) (fun _ _ _ _ _ => (pe_def D_is_value (hr.mono (by decide)) gd rfl (pa_cons (pv 2) pa_nil)))) pa_nil))))))), ?_⟩
    refine ⟨_, rfl, .ref p, .ty "tuple", _, _, true, rfl, .ty _, .base (.tup hp), kit_ty (by decide +kernel), true, rfl, iteT ?_⟩
    refine ⟨_, rfl, .ref p, (iv as).length, rfl, Or.inr ⟨_, SqT.of hp, rfl⟩, _, rfl, rfl, true, ?_, iteT ?_⟩
    · rw [iv_len]; simp
    refine ⟨_, rfl, p, rfl, ⟨_, SqT.of hp⟩, fun D hD => lc_tup (K := K) (a := p) (xs := iv as)
      (fun i H2 => Ex H H2 ∧ H2 D = some (.lst (List.replicate i (.bl true)))) ⟨Ex.new hD, upd_same⟩ (fun i H2 _ e => SqT.of (e.1 _ _ hp)) ?_ ?_⟩
    · rintro i x H2 hi ⟨e2, h2⟩
      obtain ⟨a, ha, rfl⟩ := iv_at hi
      have hai : a < 3 := hd a (List.mem_of_getElem? ha)
      have il : i < as.length := (List.getElem?_eq_some_iff.mp ha).1
      refine ⟨rfl, yes_go ?_⟩
      refine ⟨_, rfl, a, hai, rfl, fun H3 e3 => ⟨List.replicate i (.bl true), e3 _ _ h2, ?_, ?_, ?_⟩⟩
      · rw [List.length_replicate]; exact Nat.lt_of_lt_of_le (by omega : i < 4) (by decide)
      · exact Ex.mut (e2.trans e3) hD
      · rw [upd_same, ← List.replicate_succ']
    · rintro H2 ⟨e2, h2⟩
      refine ⟨D, List.replicate (iv as).length true, rfl, SqL.of (by rw [h2, List.map_replicate]), ?_⟩
      have : (List.replicate (iv as).length true).all id = true := by simp
      rw [this]
      exact k H2 e2

abbrev sis_table : Stmt := top 10
abbrev Nis_table : List Str := ["x", "sign"]
theorem scis_table : FnScope Nis_table ["x"] (defScope sis_table) := ⟨rfl, rfl, rfl, by decide +kernel, rfl, by decide +kernel, by decide +kernel⟩
def spIsTable : Sp := fun vs H Q _ => ∃ (ds : List Nat) (n : Nat), IsTab ds n ∧ vs = [.str (tab ds)] ∧ Gives (.bl true) H Q
theorem lens_in {n : Nat} (h : n = 3 ∨ n = 9 ∨ n = 27) : inV (.int (n : Int)) [.int 3, .int 9, .int 27] = true := by
  rcases h with rfl | rfl | rfl <;> decide
theorem ok_is_table (F : Fun K "is_table" "is_table" sis_table f fd) (B : Blt mg) (LL : Lens K mg aL) : FnG P w K mg base 1 f fd ["x"] spIsTable := by
  refine fnG F scis_table (fun vs H Q E h => ?_) (fun cdv A fr s H vs Q E hr gd h => ?_)
  · obtain ⟨ds, n, _, rfl, _⟩ := h
    rfl
  · obtain ⟨ds, n, T, rfl, k⟩ := h
    refine ⟨_, (pss_cons (ps_if (PW.pt (pw_or (pt_not (pt_val (pe_callB call_isi (by rfl) B.m_isinstance (by decide +kernel) (pa_cons (pv 0) (pa_cons (pe_bltn (v := .ty "str") rfl B.m_str (by decide +kernel) rfl) pa_nil))))) (pw_or1 (pt_cmpR op_notIn_seq (pe_callB call_len (by rfl) B.m_len (by decide +kernel) (pa_cons (pv 0) pa_nil)) (pe_glob (v := .ref aL) rfl LL.mL rfl) (by rfl))))) (pss_one (ps_ret pe_bl)) pss_nil)
  (pss_one (ps_ret (pe_callB (cr_all rfl) (by rfl) B.m_all (by decide +kernel) (pa_cons (pe_lc (own := [("sign", 1)]) (g := gName 1) rfl scis_table.nd (pi_str (pv 0)) (blkOk_by (own := [("sign", 1)]) (N := Nis_table) (sc := defScope sis_table) (by decide +kernel)) (fun _ _ _ _ _ => (pg_name (i := 1) scis_table.nd rfl (Or.inl rfl))) (fun _ _ _ _ _ => pts_nil) (fun _ _ _ _ _ => (pe_cmpR op_in_sign (pv 1) pe_str (by rfl)))) pa_nil))))), ?_⟩
    refine ⟨_, rfl, .str (tab ds), .ty "str", _, _, true, rfl, .ty _, .base (.str _), kit_ty (by decide +kernel), true, rfl, iteF ?_⟩
    refine ⟨_, rfl, .str (tab ds), (tab ds).length, rfl, ⟨T.size, rfl⟩, aL, _, rfl, Or.inr (LL.sL H), rfl, rfl, false, ?_, iteF ?_⟩
    · have e : ds.length = 3 ∨ ds.length = 9 ∨ ds.length = 27 := by
        rcases T.cases with ⟨_, e⟩ | ⟨_, e⟩ | ⟨_, e⟩ <;> omega
      show V.bl (!inV (.int ((tab ds).length : Nat)) [.int 3, .int 9, .int 27]) = _
      rw [tab_len, lens_in e]
      rfl
    refine ⟨_, rfl, tab ds, rfl, fun D hD => lc_str (x := tab ds) (fun i H2 => Ex H H2 ∧ H2 D = some (.lst (List.replicate i (.bl true)))) ⟨Ex.new hD, upd_same⟩ ?_ ?_⟩
    · rintro i c H2 hi ⟨e2, h2⟩
      refine ⟨rfl, yes_go ?_⟩
      have il : i < ds.length := by
        have := (Array.getElem?_eq_some_iff.mp hi).1
        rw [tab_size] at this
        exact this
      refine ⟨_, rfl, c, _, rfl, rfl, List.replicate i (.bl true), h2, ?_, Ex.mut e2 hD, ?_⟩
      · rw [List.length_replicate]; exact Nat.lt_of_lt_of_le (by have := T.small; omega : i < 28) (by decide)
      · obtain ⟨d, _, d3, rfl⟩ := tab_sign T hi
        have e : decide (48 + d ∈ (Str.ofString "012").cps.toList) = true := by
          have : d = 0 ∨ d = 1 ∨ d = 2 := by omega
          rcases this with rfl | rfl | rfl <;> decide
        rw [upd_same, e, ← List.replicate_succ']
    · rintro H2 ⟨e2, h2⟩
      refine ⟨D, List.replicate (tab ds).cps.size true, rfl, SqL.of (by rw [h2, List.map_replicate]), ?_⟩
      have : (List.replicate (tab ds).cps.size true).all id = true := by simp
      rw [this]
      exact k H2 e2

abbrev smust_be_table : Stmt := top 11
abbrev Nmust_be_table : List Str := ["x"]
theorem scmust_be_table : FnScope Nmust_be_table ["x"] (defScope smust_be_table) := ⟨rfl, rfl, rfl, by decide +kernel, rfl, by decide +kernel, by decide +kernel⟩
def spMust : Sp := fun vs H Q _ => ∃ (ds : List Nat) (n : Nat), IsTab ds n ∧ vs = [.str (tab ds)] ∧ Gives .non H Q
theorem ok_must_be_table (F : Fun K "must_be_table" "must_be_table" smust_be_table f fd) (D_is_table : DefG P w K mg base "is_table" ["x"] 1 spIsTable) : FnG P w K mg base 2 f fd ["x"] spMust := by
  refine fnG F scmust_be_table (fun vs H Q E h => ?_) (fun cdv A fr s H vs Q E hr gd h => ?_)
  · obtain ⟨ds, n, _, rfl, _⟩ := h
    rfl
  · obtain ⟨ds, n, T, rfl, k⟩ := h
    refine ⟨_, (pss_one (ps_if (pt_not (pt_val (pe_def D_is_table (hr.mono (by decide)) gd rfl (pa_cons (pv 0) pa_nil)))) (pss_one ps_never) pss_nil)), ?_⟩
    exact ⟨_, rfl, ds, n, T, rfl, fun H1 e1 => ⟨true, rfl, iteF (k H1 e1)⟩⟩
abbrev sindex_at : Stmt := top 13
abbrev Nindex_at : List Str := ["arguments", "at", "x"]
theorem scindex_at : FnScope Nindex_at ["arguments"] (defScope sindex_at) := ⟨rfl, rfl, rfl, by decide +kernel, rfl, by decide +kernel, by decide +kernel⟩
def spIndexAt : Sp := fun vs H Q _ => ∃ (p : Addr) (as : List Nat), vs = [.ref p] ∧ H p = some (.tup (iv as)) ∧ Gives (.int (num as : Nat)) H Q
theorem num_take {as : List Nat} {i a : Nat} (h : as[i]? = some a) : num (as.take (i + 1)) = 3 * num (as.take i) + a := by
  rw [List.take_succ, h]
  exact num_snoc _ _
theorem ok_index_at (F : Fun K "index_at" "index_at" sindex_at f fd) : FnG P w K mg base 1 f fd ["arguments"] spIndexAt := by
  refine fnG F scindex_at (fun vs H Q E h => ?_) (fun cdv A fr s H vs Q E hr gd h => ?_)
  · obtain ⟨p, as, rfl, _⟩ := h
    rfl
  · obtain ⟨p, as, rfl, hp, k⟩ := h
    refine ⟨_, (pss_cons (ps_set (i := 1) scindex_at.nd rfl (Or.inl rfl) pe_int)
  (pss_cons (ps_for PassesOwn.never rfl (pi_tup (pv 0)) (pg_name (i := 2) scindex_at.nd rfl (Or.inl rfl)) (pss_one (ps_set (i := 1) scindex_at.nd rfl (Or.inl rfl) (pe_op op_add (pe_op op_mul pe_int (pv 1)) (pv 2)))))
  (pss_one (ps_ret (pv 1))))), ?_⟩
    refine ⟨_, rfl, p, rfl, ⟨_, SqT.of hp⟩, for_tup (K := K) (a := p) (xs := iv as)
      (fun i σ H2 => H2 = H ∧ ∃ v : Option V, σ = [some (.ref p), some (.int (num (as.take i) : Nat)), v]) ⟨rfl, none, rfl⟩ (fun i σ H2 _ e => by rw [e.1]; exact SqT.of hp) ?_ ?_⟩
    · rintro i x σ H2 hi ⟨rfl, v, rfl⟩
      obtain ⟨a, ha, rfl⟩ := iv_at hi
      refine ⟨_, rfl, _, _, rfl, rfl, Or.inl ⟨by decide, by decide⟩, _, rfl, _, _, rfl, rfl, rfl, some (.int (a : Int)), ?_⟩
      rw [num_take ha]
      show [some (V.ref p), some (V.int (3 * ((num (as.take i) : Nat) : Int) + (a : Int))), some (V.int (a : Int))] = _
      have e : (3 * ((num (as.take i) : Nat) : Int) + (a : Int)) = ((3 * num (as.take i) + a : Nat) : Int) := by omega
      rw [e]
    · rintro σ H2 ⟨rfl, v, rfl⟩
      rw [iv_len, List.take_length]
      exact ⟨_, rfl, k H2 (Ex.refl H2)⟩
theorem ev_lenLz {σ : L2.St} {H : Hp} {te : TE} {xs : List V} (h : EvL te σ H xs) : Ev (tCB (fun xs H Q => ∃ x n, xs = [x] ∧ LenV K x H n ∧ Q (.int (n : Nat)) H) (tCons te tNil)) σ H (.int (xs.length : Nat)) :=
  fun H1 e Q q => h H1 e _ fun p H2 _ e2 hx => ⟨.ref p, xs.length, rfl, Or.inl ⟨xs, SqL.of hx, rfl⟩, q H2 e2⟩
/-- over LENGTHS -/
theorem el_lcLens {σ : L2.St} {H : Hp} {te tl : TE} {tt : TT} {j : Nat} {vs : List Nat} (LL : Lens K mg aL) (f : Nat → Bool) (v : Nat → V) (h : Ev tl σ H (.ref aL))
    (hw : ∀ y, wipe ((wipe σ vs).set j (some y)) vs = wipe σ vs)
    (ht : ∀ (i : Nat) (x : V) H1, Ex H H1 → [V.int 3, V.int 9, V.int 27][i]? = some x → EvT tt ((wipe σ vs).set j (some x)) H1 (f i))
    (he : ∀ (i : Nat) (x : V) H1, Ex H H1 → [V.int 3, V.int 9, V.int 27][i]? = some x → f i = true → Ev te ((wipe σ vs).set j (some x)) H1 (v i)) :
    EvL (tLc (iTup K tl) (gName j) tt te vs) σ H (given 3 f v) := fun H0 e Q q => h H0 e _ fun H1 e1 => ⟨aL, rfl, ⟨[.int 3, .int 9, .int 27], LL.sL H1⟩, fun Dl hD =>
  lc_tup (xs := [V.int 3, V.int 9, V.int 27]) (Cw H1 f v Dl) ⟨hD, Ex.new hD, upd_same⟩ (fun i H' _ p => LL.sL H') (fun i x H' hi p =>
    ⟨hw _, cw_turn p (by have := (List.getElem?_eq_some_iff.mp hi).1; have l3 : [V.int 3, V.int 9, V.int 27].length = 3 := rfl; omega) (ht i x H1 (e.trans e1) hi) (fun hf => he i x H1 (e.trans e1) hi hf)⟩)
    (fun H' p => q Dl H' (fresh_back e1 p.1) (e1.trans p.2.1) p.2.2)⟩
abbrev splaces : Stmt := top 17
abbrev Nplaces : List Str := ["table", "length"]
theorem scplaces : FnScope Nplaces ["table"] (defScope splaces) := ⟨rfl, rfl, rfl, by decide +kernel, rfl, by decide +kernel, by decide +kernel⟩
def spPlaces : Sp := fun vs H Q _ => ∃ (ds : List Nat) (n : Nat), IsTab ds n ∧ vs = [.str (tab ds)] ∧ Gives (.int (n : Int)) H Q
theorem ok_places (F : Fun K "places" "places" splaces f fd) (B : Blt mg) (LL : Lens K mg aL) (D_must_be_table : DefG P w K mg base "must_be_table" ["x"] 2 spMust) : FnG P w K mg base 3 f fd ["table"] spPlaces := by
  refine fnG F scplaces (fun vs H Q E h => ?_) (fun cdv A fr s H vs Q E hr gd h => ?_)
  · obtain ⟨ds, n, _, rfl, _⟩ := h
    rfl
  · obtain ⟨ds, n, T, rfl, k⟩ := h
    refine ⟨_, (pss_cons (ps_expr (pe_def D_must_be_table (hr.mono (by decide)) gd rfl (pa_cons (pv 0) pa_nil)))
  (pss_one (ps_ret (pe_callB call_len (by rfl) B.m_len (by decide +kernel) (pa_cons (pe_lc (own := [("length", 1)]) (g := gName 1) rfl scplaces.nd (pi_tup (pe_glob (v := .ref aL) rfl LL.mL rfl)) (blkOk_by (own := [("length", 1)]) (N := Nplaces) (sc := defScope splaces) (by decide +kernel)) (fun _ _ _ _ _ => (pg_name (i := 1) scplaces.nd rfl (Or.inl rfl))) (fun _ _ _ _ _ => (pts_one (pt_cmpR op_le (pv 1) (pe_callB (show CallR _ _ (fun xs H Q => ∃ x n, xs = [x] ∧ LenV K x H n ∧ Q (.int (n : Nat)) H) from call_len) (by rfl) B.m_len (by decide +kernel) (pa_cons (pv 0) pa_nil)) (nomark _)))) (fun _ _ _ _ _ => (pv 1))) pa_nil))))), ?_⟩
    refine ⟨_, rfl, ds, n, T, rfl, fun H1 e1 => ?_⟩
    dsimp only
    have lens : EvL (tLc (iTup K (tC (.ref aL))) (gName 1) (tTest (tOp (rI0 fun i j => V.bl (decide (i ≤ j))) (tVar 1) (tCB (fun xs H Q => ∃ x n, xs = [x] ∧ LenV K x H n ∧ Q (V.int (n : Nat)) H) (tCons (tVar 0) tNil)))) (tVar 1) [1])
        [some (V.str (tab ds)), none] H1 (given 3 (fun i => decide ([(3 : Int), 9, 27].getD i 0 ≤ (((tab ds).length : Nat) : Int))) (fun i => .int ([(3 : Int), 9, 27].getD i 0))) := by
      refine el_lcLens LL _ _ ev_c (fun y => rfl) (fun i x H2 e2 hx => ?_) (fun i x H2 e2 hx _ => ?_)
      · have hi : i < 3 := (List.getElem?_eq_some_iff.mp hx).1
        have ex : x = .int ([(3 : Int), 9, 27].getD i 0) := by
          have : i = 0 ∨ i = 1 ∨ i = 2 := by omega
          rcases this with rfl | rfl | rfl <;> exact (Option.some.inj hx).symm
        rw [ex]
        exact et_test (ev_op (ev_var rfl) (ev_str_len (ev_var rfl) T.size) rv_I0)
      · have hi : i < 3 := (List.getElem?_eq_some_iff.mp hx).1
        have ex : x = .int ([(3 : Int), 9, 27].getD i 0) := by
          have : i = 0 ∨ i = 1 ∨ i = 2 := by omega
          rcases this with rfl | rfl | rfl <;> exact (Option.some.inj hx).symm
        rw [ex]
        exact ev_var rfl
    refine s_ret (v := .int ((given 3 (fun i => decide ([(3 : Int), 9, 27].getD i 0 ≤ (((tab ds).length : Nat) : Int))) (fun i => V.int ([(3 : Int), 9, 27].getD i 0))).length : Nat))
      (ev_lenLz lens) fun H2 e2 => ?_
    have cnt : (given 3 (fun i => decide ([(3 : Int), 9, 27].getD i 0 ≤ (((tab ds).length : Nat) : Int))) (fun i => V.int ([(3 : Int), 9, 27].getD i 0))).length = n := by
      rw [tab_len]
      rcases T.cases with ⟨rfl, l⟩ | ⟨rfl, l⟩ | ⟨rfl, l⟩ <;> rw [l] <;> decide
    rw [cnt]
    exact k H2 (e1.trans e2)
abbrev svalue : Stmt := top 16
abbrev Nvalue : List Str := ["table", "arguments", "many"]
theorem scvalue : FnScope Nvalue ["table", "arguments"] (defScope svalue) := ⟨rfl, rfl, rfl, by decide +kernel, rfl, by decide +kernel, by decide +kernel⟩
def spValue : Sp := fun vs H Q _ => ∃ (ds : List Nat) (n : Nat) (p : Addr) (as : List Nat), IsTab ds n ∧ vs = [.str (tab ds), .ref p] ∧ H p = some (.tup (iv as)) ∧
  as.length = n ∧ (∀ a ∈ as, a < 3) ∧ Gives (.int (val ds as : Nat)) H Q
theorem ok_value (F : Fun K "value" "value" svalue f fd) (B : Blt mg) (D_places : DefG P w K mg base "places" ["table"] 3 spPlaces)
    (D_are_arguments : DefG P w K mg base "are_arguments" ["x", "count"] 4 spAreArgs) (D_index_at : DefG P w K mg base "index_at" ["arguments"] 1 spIndexAt) :
    FnG P w K mg base 5 f fd ["table", "arguments"] spValue := by
  refine fnG F scvalue (fun vs H Q E h => ?_) (fun cdv A fr s H vs Q E hr gd h => ?_)
  · obtain ⟨ds, n, p, as, _, rfl, _⟩ := h
    rfl
  · obtain ⟨ds, n, p, as, T, rfl, hp, hl, hd, k⟩ := h
    refine ⟨_, (pss_cons (ps_set (i := 2) scvalue.nd rfl (Or.inl rfl) (pe_def D_places (hr.mono (by decide)) gd rfl (pa_cons (pv 0) pa_nil)))
  (pss_cons (ps_if (pt_not (pt_val (pe_def D_are_arguments (hr.mono (by decide)) gd rfl (pa_cons (pv 1) (pa_cons (pv 2) pa_nil))))) (pss_one ps_never) pss_nil)
  (pss_one (ps_ret (pe_callTy call_int_str (by rfl) B.m_int (by decide +kernel) (pa_cons (pe_ix ix_str (pv 0) (pe_def D_index_at (hr.mono (by decide)) gd rfl (pa_cons (pv 1) pa_nil)) (fun _ _ => rfl)) pa_nil)))))), ?_⟩
    refine ⟨_, rfl, ds, n, T, rfl, fun H1 e1 => ?_⟩
    subst hl
    refine ⟨_, rfl, _, rfl, p, as, rfl, e1 _ _ hp, hd, T.n3, fun H2 e2 => ⟨true, rfl, iteF ?_⟩⟩
    refine ⟨_, rfl, _, rfl, p, as, rfl, e2 _ _ (e1 _ _ hp), fun H3 e3 => ?_⟩
    obtain ⟨g1, g2⟩ := T.at rfl hd
    refine ⟨tab ds, _, 48 + val ds as, rfl, rfl, T.size, ?_, ⟨#[48 + val ds as]⟩, _, rfl, int_digit _ g2, (by show 1 ≤ 640; decide), k H3 ((e1.trans e2).trans e3)⟩
    rw [tab_cps]
    exact atI_nat (by rw [List.getElem?_map, g1]; rfl)
end
end Tv

namespace Tv
open PySem PySem.Spec PyProof.Rows L2 Evl
section
variable {P : Program} {w : World} {K : PySem.W.Frag} {mg : Str → Option Value} {base : Heap} {f aL : Addr} {fd : FuncData}
abbrev sall_ways : Stmt := top 14
abbrev Nall_ways : List Str := ["lots", "rows", "lot", "row", "x"]
theorem scall_ways : FnScope Nall_ways ["lots"] (defScope sall_ways) := ⟨rfl, rfl, rfl, by decide +kernel, rfl, by decide +kernel, by decide +kernel⟩
/-- gives a new list of new rows of anything back -/
abbrev GivesRowsV (L : List (List V)) (H : Hp) (Q : VK) : Prop := ∀ p H' xs, H p = none → Ex H H' → H' p = some (.lst xs) → RowsV H' xs L → Q (.ref p) H'
def FewWays (xss : List (List V)) : Prop := xss.length ≤ 20 ∧ ∀ i, i ≤ xss.length → (ways (xss.take i)).length ≤ 60000
def spWays : Sp := fun vs H Q _ => ∃ (p : Addr) (ls : List V) (xss : List (List V)), vs = [.ref p] ∧ H p = some (.lst ls) ∧ FewWays xss ∧
  (RowsV H ls xss ∨ ∃ zs : List Str, ls = zs.map V.str ∧ xss = zs.map signsOf) ∧ GivesRowsV (ways xss) H Q
theorem ok_all_ways (F : Fun K "all_ways" "all_ways" sall_ways f fd) : FnG P w K mg base 1 f fd ["lots"] spWays := by
  refine fnG F scall_ways (fun vs H Q E h => ?_) (fun cdv A fr s H vs Q E hr gd h => ?_)
  · obtain ⟨p, ls, xss, rfl, _⟩ := h
    rfl
  · obtain ⟨p, ls, xss, rfl, hp, ⟨short, few⟩, kind, k⟩ := h
    have many : ls.length = xss.length := by
      rcases kind with R | ⟨zs, rfl, rfl⟩
      · exact R.len
      · rw [List.length_map, List.length_map]
    have small : ∀ {i : Nat} {xs : List V}, xss[i]? = some xs → (ways (xss.take i)).length * xs.length ≤ 60000 := fun {i xs} h => by
      have := few (i + 1) (List.getElem?_eq_some_iff.mp h).1
      rw [ways_take h, growAll_len] at this
      exact this
    have row_short : ∀ {i j : Nat} {r : List V}, (ways (xss.take i))[j]? = some r → r.length ≤ 100 := fun {i j r} h => by
      have := ways_row (List.mem_of_getElem? h)
      rw [List.length_take] at this
      omega
    rcases kind with R | ⟨zs, rfl, rfl⟩
    · refine ⟨_, (pss_cons (ps_set (i := 1) scall_ways.nd rfl (Or.inl rfl) (pe_lst (pa_cons (pe_tup pa_nil) pa_nil)))
  (pss_cons (ps_for PassesOwn.never rfl (pi_list (pv 0)) (pg_name (i := 2) scall_ways.nd rfl (Or.inr rfl)) (pss_one (ps_setLc2 (i := 1) (own := [("row", 3), ("x", 4)]) (vs1 := [4]) rfl scall_ways.nd rfl rfl (sw_true rfl rfl rfl (by decide +kernel)) (pi_list (pv 1)) (blkOk_by (own := [("row", 3), ("x", 4)]) (N := Nall_ways) (sc := defScope sall_ways) (by decide +kernel)) (by decide) (fun _ _ _ _ _ => (pg_name (i := 3) scall_ways.nd rfl (Or.inl rfl))) (fun _ _ _ _ _ => pts_nil) (fun _ _ _ _ _ => (show PI _ _ _ (iTup K _) from (pi_tup (pv 2)))) (fun _ _ _ _ _ => (pg_name (i := 4) scall_ways.nd rfl (Or.inl rfl))) (fun _ _ _ _ _ => pts_nil) (fun _ _ _ _ _ => (pe_op (show OpR _ _ (rCatA K) from op_catA) (pv 3) (pe_tup (pa_cons (pv 4) pa_nil)))))))
  (pss_one (ps_ret (pv 1))))), ?_⟩
      refine ⟨by decide, fun t ht => ⟨by show 1 ≤ sizeLine; decide, fun l hl => ?_⟩⟩
      have tl : t ≠ l := ne_of_none upd_same hl
      have e0 := (Ex.new (o := .tup []) ht).trans (Ex.new (o := .lst [.ref t]) hl)
      refine ⟨_, rfl, p, rfl, ⟨ls, SqL.of (e0 _ _ hp)⟩, for_list (K := K) (a := p) (xs := ls)
        (fun i σ H2 => ∃ (l2 : Addr) (xs : List V) (v : Option V), σ = [some (.ref p), some (.ref l2), v, none, none] ∧ H l2 = none ∧ Ex H H2 ∧ H2 l2 = some (.lst xs) ∧ RowsV H2 xs (ways (xss.take i)))
        ?_ (fun i σ H2 _ ⟨_, _, _, _, _, e, _⟩ => SqL.of (e _ _ hp)) ?_ ?_⟩
      · refine ⟨l, [.ref t], none, rfl, fresh_back (Ex.new ht) hl, e0, upd_same, .cons ⟨t, rfl, by rw [upd_ne tl, upd_same]⟩ .nil⟩
      · rintro i x σ H2 hi ⟨l2, ys, v, rfl, hl0, e2, hl2, R2⟩
        obtain ⟨xs, at_i, a, rfl, ha⟩ := R.get hi
        have ha2 := e2 _ _ ha
        refine ⟨_, rfl, l2, rfl, ⟨ys, SqL.of hl2⟩, fun D hD => lc2_out (K := K) (a := l2) (xs := ys)
          (fun j H3 => Ex H2 H3 ∧ ∃ zs, H3 D = some (.lst zs) ∧ RowsV H3 zs (growAll ((ways (xss.take i)).take j) xs))
          ⟨Ex.new hD, [], upd_same, .nil⟩ (fun j H3 _ e => SqL.of (e.1 _ _ hl2)) ?_ ?_⟩
        · rintro j x H3 hx ⟨e3, zs, hD3, R3⟩
          obtain ⟨r, at_r, _⟩ := R2.get hx
          refine ⟨rfl, yes_go ?_⟩
          refine ⟨_, rfl, a, rfl, ⟨xs, SqT.of (e3 _ _ ha2)⟩, lc2_tup (K := K) (a := a) (xs := xs) (Grown D H2 (ways (xss.take i)) xs j r) ⟨e3, zs, hD3, ?_⟩ (fun m H4 _ e => SqT.of (e.1 _ _ ha2)) ?_ ?_⟩
          · have : grow r (xs.take 0) = [] := rfl
            rw [this, List.append_nil]
            exact R3
          · intro m y H4 hy pg
            exact ⟨rfl, yes_go (grown_turn hD R2 hx at_r hy (row_short at_r) (small at_i) pg (ev_var rfl) (ev_var rfl))⟩
          · intro H4 pg
            exact grown_end at_r pg
        · rintro H3 ⟨e3, zs, hD3, R3⟩
          rw [R2.len, List.take_length] at R3
          refine ⟨D, zs, _, rfl, fresh_back e2 hD, e2.trans e3, hD3, ?_⟩
          rw [ways_take at_i]
          exact R3
      · rintro σ H2 ⟨l2, xs, v, rfl, hl0, e2, hl2, R2⟩
        rw [many, List.take_length] at R2
        exact ⟨_, rfl, k l2 H2 xs hl0 e2 hl2 R2⟩
    · refine ⟨_, (pss_cons (ps_set (i := 1) scall_ways.nd rfl (Or.inl rfl) (pe_lst (pa_cons (pe_tup pa_nil) pa_nil)))
  (pss_cons (ps_for PassesOwn.never rfl (pi_list (pv 0)) (pg_name (i := 2) scall_ways.nd rfl (Or.inr rfl)) (pss_one (ps_setLc2 (i := 1) (own := [("row", 3), ("x", 4)]) (vs1 := [4]) rfl scall_ways.nd rfl rfl (sw_true rfl rfl rfl (by decide +kernel)) (pi_list (pv 1)) (blkOk_by (own := [("row", 3), ("x", 4)]) (N := Nall_ways) (sc := defScope sall_ways) (by decide +kernel)) (by decide) (fun _ _ _ _ _ => (pg_name (i := 3) scall_ways.nd rfl (Or.inl rfl))) (fun _ _ _ _ _ => pts_nil) (fun _ _ _ _ _ => (pi_str (pv 2))) (fun _ _ _ _ _ => (pg_name (i := 4) scall_ways.nd rfl (Or.inl rfl))) (fun _ _ _ _ _ => pts_nil) (fun _ _ _ _ _ => (pe_op (show OpR _ _ (rCatA K) from op_catA) (pv 3) (pe_tup (pa_cons (pv 4) pa_nil)))))))
  (pss_one (ps_ret (pv 1))))), ?_⟩
      refine ⟨by decide, fun t ht => ⟨by show 1 ≤ sizeLine; decide, fun l hl => ?_⟩⟩
      have tl : t ≠ l := ne_of_none upd_same hl
      have e0 := (Ex.new (o := .tup []) ht).trans (Ex.new (o := .lst [.ref t]) hl)
      refine ⟨_, rfl, p, rfl, ⟨_, SqL.of (e0 _ _ hp)⟩, for_list (K := K) (a := p) (xs := zs.map V.str)
        (fun i σ H2 => ∃ (l2 : Addr) (xs : List V) (v : Option V), σ = [some (.ref p), some (.ref l2), v, none, none] ∧ H l2 = none ∧ Ex H H2 ∧ H2 l2 = some (.lst xs) ∧ RowsV H2 xs (ways ((zs.map signsOf).take i)))
        ?_ (fun i σ H2 _ ⟨_, _, _, _, _, e, _⟩ => SqL.of (e _ _ hp)) ?_ ?_⟩
      · refine ⟨l, [.ref t], none, rfl, fresh_back (Ex.new ht) hl, e0, upd_same, .cons ⟨t, rfl, by rw [upd_ne tl, upd_same]⟩ .nil⟩
      · rintro i x σ H2 hi ⟨l2, ys, v, rfl, hl0, e2, hl2, R2⟩
        rw [List.getElem?_map] at hi
        obtain ⟨z, hz, rfl⟩ := Option.map_eq_some_iff.mp hi
        have at_i : (zs.map signsOf)[i]? = some (signsOf z) := by rw [List.getElem?_map, hz]; rfl
        refine ⟨_, rfl, l2, rfl, ⟨ys, SqL.of hl2⟩, fun D hD => lc2_out (K := K) (a := l2) (xs := ys)
          (fun j H3 => Ex H2 H3 ∧ ∃ zs_1, H3 D = some (.lst zs_1) ∧ RowsV H3 zs_1 (growAll ((ways ((zs.map signsOf).take i)).take j) (signsOf z)))
          ⟨Ex.new hD, [], upd_same, .nil⟩ (fun j H3 _ e => SqL.of (e.1 _ _ hl2)) ?_ ?_⟩
        · rintro j x H3 hx ⟨e3, us, hD3, R3⟩
          obtain ⟨r, at_r, _⟩ := R2.get hx
          refine ⟨rfl, yes_go ?_⟩
          refine ⟨_, rfl, z, rfl, lc2_str (x := z) (Grown D H2 (ways ((zs.map signsOf).take i)) (signsOf z) j r) ⟨e3, us, hD3, ?_⟩ ?_ ?_⟩
          · have : grow r ((signsOf z).take 0) = [] := rfl
            rw [this, List.append_nil]
            exact R3
          · intro m c H4 hy pg
            exact ⟨rfl, yes_go (grown_turn hD R2 hx at_r (signsOf_at hy) (row_short at_r) (small at_i) pg (ev_var rfl) (ev_var rfl))⟩
          · intro H4 pg
            rw [← signsOf_len] at pg
            exact grown_end at_r pg
        · rintro H3 ⟨e3, us, hD3, R3⟩
          rw [R2.len, List.take_length] at R3
          refine ⟨D, us, _, rfl, fresh_back e2 hD, e2.trans e3, hD3, ?_⟩
          rw [ways_take at_i]
          exact R3
      · rintro σ H2 ⟨l2, xs, v, rfl, hl0, e2, hl2, R2⟩
        rw [many, List.take_length] at R2
        exact ⟨_, rfl, k l2 H2 xs hl0 e2 hl2 R2⟩
abbrev sall_arguments : Stmt := top 15
abbrev Nall_arguments : List Str := ["count"]
theorem scall_arguments : FnScope Nall_arguments ["count"] (defScope sall_arguments) := ⟨rfl, rfl, rfl, by decide +kernel, rfl, by decide +kernel, by decide +kernel⟩
/-- gives a new list of new rows back -/
abbrev GivesRows (L : List (List Nat)) (H : Hp) (Q : VK) : Prop := ∀ p H' xs, H p = none → Ex H H' → H' p = some (.lst xs) → Rows H' xs L → Q (.ref p) H'
def spAllArgs : Sp := fun vs H Q _ => ∃ n : Nat, n ≤ 4 ∧ vs = [.int (n : Int)] ∧ GivesRows (tups n) H Q
theorem rowsV_rep {H : Hp} {a : Addr} {xs : List V} (h : H a = some (.tup xs)) : ∀ n : Nat, RowsV H (List.replicate n (.ref a)) (List.replicate n xs)
  | 0 => .nil
  | n + 1 => .cons ⟨a, rfl, h⟩ (rowsV_rep h n)
theorem few_tups : ∀ n, n ≤ 4 → FewWays (List.replicate n (iv [0, 1, 2])) := by
  intro n hn
  refine ⟨by rw [List.length_replicate]; omega, fun i hi => ?_⟩
  rw [List.length_replicate] at hi
  rw [List.take_replicate, Nat.min_eq_left hi, ways_iv, List.length_map]
  have : i ≤ 4 := by omega
  have h : ∀ i, i ≤ 4 → (tups i).length ≤ 81 := by decide
  exact Nat.le_trans (h i this) (by decide)
theorem ok_all_arguments (F : Fun K "all_arguments" "all_arguments" sall_arguments f fd) (D_all_ways : DefG P w K mg base "all_ways" ["lots"] 1 spWays) : FnG P w K mg base 2 f fd ["count"] spAllArgs := by
  refine fnG F scall_arguments (fun vs H Q E h => ?_) (fun cdv A fr s H vs Q E hr gd h => ?_)
  · obtain ⟨n, _, rfl, _⟩ := h
    rfl
  · obtain ⟨n, n4, rfl, k⟩ := h
    refine ⟨_, (pss_one (ps_ret (pe_def D_all_ways (hr.mono (by decide)) gd rfl (pa_cons (pe_op op_rep (pe_lst (pa_cons (pe_tup (pa_cons pe_int (pa_cons pe_int (pa_cons pe_int pa_nil)))) pa_nil)) (pv 0)) pa_nil)))), ?_⟩
    refine ⟨by show 3 ≤ sizeLine; decide, fun t ht => ⟨by show 1 ≤ sizeLine; decide, fun l hl => ?_⟩⟩
    have tl : t ≠ l := ne_of_none upd_same hl
    refine ⟨_, rfl, l, (n : Int), [.ref t], rfl, rfl, upd_same, by omega, by omega, by rw [Int.toNat_natCast]; exact Nat.le_trans (by show 1 * n ≤ 4; omega) (by decide), fun p hp => ?_⟩
    have e1 := (Ex.new (o := .tup (iv [0, 1, 2])) ht).trans (Ex.new (o := .lst [.ref t]) hl)
    have e2 := e1.trans (Ex.new (o := .lst (List.replicate (n : Int).toNat [V.ref t]).flatten) hp)
    have ht2 : (upd (upd (upd H t (.tup (iv [0, 1, 2]))) l (.lst [.ref t])) p (.lst (List.replicate (n : Int).toNat [V.ref t]).flatten)) t = some (.tup (iv [0, 1, 2])) := by
      rw [upd_ne (ne_of_none (by rw [upd_ne tl, upd_same]) hp), upd_ne tl, upd_same]
    refine ⟨p, List.replicate n (.ref t), List.replicate n (iv [0, 1, 2]), rfl, ?_, few_tups n n4, Or.inl (rowsV_rep ht2 n), fun q H' xs hq e hx R => ?_⟩
    · have e0 : (List.replicate (n : Int).toNat [V.ref t]).flatten = List.replicate n (V.ref t) := by rw [Int.toNat_natCast, flat_one]
      rw [← e0]
      exact upd_same
    · rw [ways_iv] at R
      exact k q H' xs (fresh_back e2 hq) (e2.trans e) hx (Rows.ofV R)
end
end Tv

namespace Tv
open PySem PySem.Spec PyProof.Rows L2 Evl
section
variable {P : Program} {w : World} {K : PySem.W.Frag} {mg : Str → Option Value} {base : Heap} {f aL : Addr} {fd : FuncData}
def stride (n p : Nat) : Nat := 3 ^ n / 3 ^ (p + 1)
/-- whether a turn of the first comprehension gives its number -/
def isStart (s : Nat) (i : Nat) : Bool := decide (V.int ((i : Int) / (s : Int) % 3) = V.int 0)
def cut3 (ds : List Nat) (a s : Int) : Str := Txt.sliceBy (tab ds) (some (a, 0)) (some (a + 3 * s, 0)) (s, 0)
def differs (ds : List Nat) (s : Nat) (v : V) : Bool := match v with
  | .int a => decide (1 < ((dist (seen (cut3 ds a s) (cut3 ds a s).cps.size)).length : Int))
  | _ => false
def startsV (n p : Nat) : List V := given (3 ^ n) (isStart (stride n p)) (fun i => V.int (i : Int))
def countsB (ds : List Nat) (n p : Nat) : Bool := (startsV n p).any (differs ds (stride n p))
abbrev scounts : Stmt := top 18
abbrev Ncounts : List Str := ["table", "place", "stride", "starts", "at"]
theorem sccounts : FnScope Ncounts ["table", "place"] (defScope scounts) := ⟨rfl, rfl, rfl, by decide +kernel, rfl, by decide +kernel, by decide +kernel⟩
def spCounts : Sp := fun vs H Q _ => ∃ (ds : List Nat) (n p : Nat), IsTab ds n ∧ p < n ∧ vs = [.str (tab ds), .int (p : Int)] ∧ Gives (.bl (countsB ds n p)) H Q
theorem stride_pos {n p : Nat} (h : p < n) : 0 < stride n p := Nat.div_pos (Nat.pow_le_pow_right (by decide) h) (Nat.pow_pos (by decide))
theorem stride_le {n p : Nat} (h : n ≤ 3) : stride n p ≤ 27 := Nat.le_trans (Nat.div_le_self _ _) (Nat.le_trans (Nat.pow_le_pow_right (by decide) h) (by decide))
theorem ok_counts (F : Fun K "counts" "counts" scounts f fd) (B : Blt mg) (LL : Lens K mg aL) : FnG P w K mg base 1 f fd ["table", "place"] spCounts := by
  refine fnG F sccounts (fun vs H Q E h => ?_) (fun cdv A fr s H vs Q E hr gd h => ?_)
  · obtain ⟨ds, n, p, _, _, rfl, _⟩ := h
    rfl
  · obtain ⟨ds, n, p, T, hp, rfl, k⟩ := h
    refine ⟨_, (pss_cons (ps_set (i := 2) sccounts.nd rfl (Or.inr rfl) (pe_op op_fdiv (pe_callB call_len (by rfl) B.m_len (by decide +kernel) (pa_cons (pv 0) pa_nil)) (pe_ix ix_tup (pe_glob (v := .ref aL) rfl LL.mL rfl) (pv 1) (fun _ _ => rfl))))
  (pss_cons (ps_setLc (i := 3) (own := [("at", 4)]) (g := gName 4) rfl sccounts.nd rfl rfl (sw_true rfl rfl rfl (by decide +kernel)) (pi_range1 rfl B.m_range (pa_cons (pe_callB call_len (by rfl) B.m_len (by decide +kernel) (pa_cons (pv 0) pa_nil)) pa_nil)) (blkOk_by (own := [("at", 4)]) (N := Ncounts) (sc := defScope scounts) (by decide +kernel)) (fun _ _ _ _ _ => (pg_name (i := 4) sccounts.nd rfl (Or.inl rfl))) (fun _ _ _ _ _ => (pts_one (pt_cmpR op_eq (pe_op op_mod (pe_op op_fdiv (pv 4) (pv 2)) pe_int) pe_int (nomark _)))) (fun _ _ _ _ _ => (pv 4)))
  (pss_one (ps_ret (pe_callB (cr_any rfl) (by rfl) B.m_any (by decide +kernel) (pa_cons (pe_lc (own := [("at", 4)]) (g := gName 4) rfl sccounts.nd (pi_list (pv 3)) (blkOk_by (own := [("at", 4)]) (N := Ncounts) (sc := defScope scounts) (by decide +kernel)) (fun _ _ _ _ _ => (pg_name (i := 4) sccounts.nd rfl (Or.inl rfl))) (fun _ _ _ _ _ => pts_nil) (fun _ _ _ _ _ => (pe_cmpR op_gt (pe_lenSetS rfl (by rfl) B.m_len (by rfl) B.m_set (pe_slice3 (pv 0) (pv 4) (pe_op op_add (pv 4) (pe_op op_mul pe_int (pv 2))) (pv 2))) pe_int (nomark _)))) pa_nil)))))), ?_⟩
    have np : n ≤ 3 := T.n3
    have lv : atI [V.int 3, V.int 9, V.int 27] (p : Int) = some (.int ((3 ^ (p + 1) : Nat) : Int)) := by
      have : p = 0 ∨ p = 1 ∨ p = 2 := by omega
      rcases this with rfl | rfl | rfl <;> rfl
    have sz : ((tab ds).length : Int) / ((3 ^ (p + 1) : Nat) : Int) = ((stride n p : Nat) : Int) := by
      rw [tab_len, T.len]
      rfl
    have p3 : ((3 ^ (p + 1) : Nat) : Int) < 1073741824 := by
      have : p = 0 ∨ p = 1 ∨ p = 2 := by omega
      rcases this with rfl | rfl | rfl <;> decide
    have p0 : 0 < ((3 ^ (p + 1) : Nat) : Int) := by
      have : p = 0 ∨ p = 1 ∨ p = 2 := by omega
      rcases this with rfl | rfl | rfl <;> decide
    have sp := stride_pos hp
    have sl := stride_le (p := p) np
    -- stride
    refine q_asg (v := V.int ((stride n p : Nat) : Int)) (fun H1 e Q1 q => ?_) fun H0 e0 => ?_
    · refine ⟨_, rfl, .str (tab ds), (tab ds).length, rfl, ⟨T.size, rfl⟩, _, rfl, aL, _, _, _, rfl, rfl, LL.sL H1, lv, _, _, rfl, rfl, ⟨p0, p3⟩, ?_⟩
      have q' := q H1 (Ex.refl H1)
      rw [← sz] at q'
      exact q'
    -- starts
    refine q_asgL (xs := startsV n p) ?_ ?_
    · have e1 : startsV n p = given ((tab ds).length : Int).toNat (isStart (stride n p)) (fun i => V.int (i : Int)) := by
        rw [tab_len, T.len, Int.toNat_natCast]
        rfl
      rw [e1]
      refine el_lcR1 (isStart (stride n p)) (fun i => V.int (i : Int)) (ea_cons (ev_str_len (ev_var rfl) T.size) ea_nil)
        ⟨by omega, by rw [tab_len]; have := T.small; omega⟩ (fun x => rfl) (fun i H1 e hi => ?_) (fun i H1 e hi _ => ev_var rfl)
      refine et_test (ev_op (ev_op (x := V.int ((i : Int) / ((stride n p : Nat) : Int))) (ev_op (ev_var rfl) (ev_var rfl) ?_) ev_c ?_) ev_c (rv_eq rfl))
      · exact rv_I (C := CDiv) (g := fun i j => V.int (i / j)) ⟨by omega, by omega⟩
      · exact rv_I (C := fun _ j => 0 < j) (g := fun i j => V.int (i % j)) (by decide)
    · intro q H1 hq e1 h1
      refine s_ret (v := .bl (countsB ds n p)) ?_ fun H2 e2 => k H2 ((e0.trans e1).trans e2)
      have e9 : countsB ds n p = ((startsV n p).map (differs ds (stride n p))).any id := by
        unfold countsB
        rw [List.any_map]
        rfl
      rw [e9]
      refine ev_anyN ?_
      have e8 : ((startsV n p).map (differs ds (stride n p))).map V.bl = given (startsV n p).length (fun _ => true) (fun i => .bl (differs ds (stride n p) (nth (startsV n p) i))) := by
        rw [given_all (startsV n p) (fun x => .bl (differs ds (stride n p) x)), List.map_map]
        rfl
      rw [e8]
      refine el_lcL (xs := startsV n p) (fun _ => true) (fun i => .bl (differs ds (stride n p) (nth (startsV n p) i))) (ev_var rfl) (sq_of h1)
        (by have := given_len (3 ^ n) (isStart (stride n p)) (fun i => V.int (i : Int)); have e := T.len; have := T.small; unfold startsV; omega)
        (fun x => rfl) (fun i x H2 e hx => fun H3 e3 Q3 q3 => q3 H3 (Ex.refl H3)) (fun i x H2 e hx _ => ?_)
      rw [nth_of hx]
      obtain ⟨a, ha, _, rfl⟩ := given_mem (List.mem_of_getElem? hx)
      have small : (cut3 ds a (stride n p)).cps.size ≤ 27 := by
        have := Txt.sliceBy_le (tab ds) (some ((a : Int), 0)) (some ((a : Int) + 3 * (stride n p : Nat), 0)) (((stride n p : Nat) : Int), 0) (by show ((stride n p : Nat) : Int) ≠ 0; omega)
        have h2 := T.small
        rw [tab_len] at this
        exact Nat.le_trans this h2
      refine ev_op (x := V.int ((dist (seen (cut3 ds a (stride n p)) (cut3 ds a (stride n p)).cps.size)).length : Int)) (ev_lenset (ev_sl3 (ev_var rfl) (ev_var rfl) (ev_op (ev_var rfl) (ev_op ev_c (ev_var rfl) ?_) rv_I0) (ev_var rfl) (by omega) T.size) (Nat.le_trans small (by decide))) ev_c rv_I0
      exact rv_I (C := CMul) (g := fun i j => V.int (i * j)) (Or.inl ⟨by decide, by decide⟩)
abbrev scounting : Stmt := top 19
abbrev Ncounting : List Str := ["table", "place"]
theorem sccounting : FnScope Ncounting ["table"] (defScope scounting) := ⟨rfl, rfl, rfl, by decide +kernel, rfl, by decide +kernel, by decide +kernel⟩
def spCounting : Sp := fun vs H Q _ => ∃ (ds : List Nat) (n : Nat), IsTab ds n ∧ vs = [.str (tab ds)] ∧ GivesT (given n (countsB ds n) (fun i => V.int (i : Int))) H Q
theorem ok_counting (F : Fun K "counting" "counting" scounting f fd) (B : Blt mg) (D_places : DefG P w K mg base "places" ["table"] 3 spPlaces)
    (D_counts : DefG P w K mg base "counts" ["table", "place"] 1 spCounts) : FnG P w K mg base 4 f fd ["table"] spCounting := by
  refine fnG F sccounting (fun vs H Q E h => ?_) (fun cdv A fr s H vs Q E hr gd h => ?_)
  · obtain ⟨ds, n, _, rfl, _⟩ := h
    rfl
  · obtain ⟨ds, n, T, rfl, k⟩ := h
    refine ⟨_, (pss_one (ps_ret (pe_callTy call_tuple_of (by rfl) B.m_tuple (by decide +kernel) (pa_cons (pe_lc (own := [("place", 1)]) (g := gName 1) rfl sccounting.nd (pi_range1 rfl B.m_range (pa_cons (pe_def D_places (hr.mono (by decide)) gd rfl (pa_cons (pv 0) pa_nil)) pa_nil)) (blkOk_by (own := [("place", 1)]) (N := Ncounting) (sc := defScope scounting) (by decide +kernel)) (fun _ _ _ _ _ => (pg_name (i := 1) sccounting.nd rfl (Or.inl rfl))) (fun _ _ _ _ _ => (pts_one (pt_val (pe_def D_counts (hr.mono (by decide)) gd rfl (pa_cons (pv 0) (pa_cons (pv 1) pa_nil)))))) (fun _ _ _ _ _ => (pv 1))) pa_nil)))), ?_⟩
    refine s_retU (eu_tupleN ?_) k
    have e1 : given n (countsB ds n) (fun i => V.int (i : Int)) = given ((n : Int)).toNat (countsB ds n) (fun i => V.int (i : Int)) := by rw [Int.toNat_natCast]
    rw [e1]
    refine el_lcR1 (countsB ds n) (fun i => V.int (i : Int)) (ea_cons (ev_def (ea_cons (ev_var rfl) ea_nil) fun H1 _ Q q => ⟨ds, n, T, rfl, q⟩) ea_nil)
      ⟨by omega, by have := T.n3; omega⟩ (fun x => rfl) (fun i H1 e hi => ?_) (fun i H1 e hi _ => ev_var rfl)
    exact et_B (ev_def (ea_cons (ev_var rfl) (ea_cons (ev_var rfl) ea_nil)) fun H1 _ Q q => ⟨ds, n, i, T, by omega, rfl, q⟩)
abbrev sis_onto : Stmt := top 20
abbrev Nis_onto : List Str := ["table", "sign"]
theorem scis_onto : FnScope Nis_onto ["table"] (defScope sis_onto) := ⟨rfl, rfl, rfl, by decide +kernel, rfl, by decide +kernel, by decide +kernel⟩
def ontoB (ds : List Nat) : Bool := [0, 1, 2].all fun (c : Nat) => decide (48 + c ∈ (tab ds).cps.toList)
def spOnto : Sp := fun vs H Q _ => ∃ (ds : List Nat) (n : Nat), IsTab ds n ∧ vs = [.str (tab ds)] ∧ Gives (.bl (ontoB ds)) H Q
theorem ok_is_onto (F : Fun K "is_onto" "is_onto" sis_onto f fd) (B : Blt mg) (D_must_be_table : DefG P w K mg base "must_be_table" ["x"] 2 spMust) :
    FnG P w K mg base 3 f fd ["table"] spOnto := by
  refine fnG F scis_onto (fun vs H Q E h => ?_) (fun cdv A fr s H vs Q E hr gd h => ?_)
  · obtain ⟨ds, n, _, rfl, _⟩ := h
    rfl
  · obtain ⟨ds, n, T, rfl, k⟩ := h
    refine ⟨_, (pss_cons (ps_expr (pe_def D_must_be_table (hr.mono (by decide)) gd rfl (pa_cons (pv 0) pa_nil)))
  (pss_one (ps_ret (pe_callB (cr_all rfl) (by rfl) B.m_all (by decide +kernel) (pa_cons (pe_lc (own := [("sign", 1)]) (g := gName 1) rfl scis_onto.nd (pi_str pe_str) (blkOk_by (own := [("sign", 1)]) (N := Nis_onto) (sc := defScope sis_onto) (by decide +kernel)) (fun _ _ _ _ _ => (pg_name (i := 1) scis_onto.nd rfl (Or.inl rfl))) (fun _ _ _ _ _ => pts_nil) (fun _ _ _ _ _ => (pe_cmpR op_in_sign (pv 1) (pv 0) (by rfl)))) pa_nil))))), ?_⟩
    refine q_drop (ev_def (ea_cons (ev_var rfl) ea_nil) fun H1 _ Q q => ⟨ds, n, T, rfl, q⟩) fun H0 e0 => ?_
    refine s_ret (v := .bl (ontoB ds)) ?_ fun H2 e2 => k H2 (e0.trans e2)
    have e9 : ontoB ds = [decide (48 ∈ (tab ds).cps.toList), decide (49 ∈ (tab ds).cps.toList), decide (50 ∈ (tab ds).cps.toList)].all id := rfl
    rw [e9]
    refine ev_allN ?_
    refine el_lcS (x := Str.ofString "012") (fun _ => true) (fun i => .bl (decide ((Str.ofString "012").cps.getD i 0 ∈ (tab ds).cps.toList))) ev_c (by decide) (fun x => rfl)
      (fun i c H1 e hi => et_yes) (fun i c H1 e hi _ => ?_)
    have e2 : (Str.ofString "012").cps.getD i 0 = c := by rw [← Array.getElem?_toList] at hi; simp [Array.getD_eq_getD_getElem?, ← Array.getElem?_toList, hi]
    rw [e2]
    exact ev_inSign (ev_var rfl) (ev_var rfl)
abbrev sdigits_of : Stmt := top 22
abbrev Ndigits_of : List Str := ["table"]
theorem scdigits_of : FnScope Ndigits_of ["table"] (defScope sdigits_of) := ⟨rfl, rfl, rfl, by decide +kernel, rfl, by decide +kernel, by decide +kernel⟩
def spDigits : Sp := fun vs H Q _ => ∃ (ds : List Nat) (n : Nat), IsTab ds n ∧ vs = [.str (tab ds)] ∧
  GivesT [.int (Txt.count (tab ds) ⟨#[48]⟩), .int (Txt.count (tab ds) ⟨#[49]⟩), .int (Txt.count (tab ds) ⟨#[50]⟩)] H Q
theorem ok_digits_of (F : Fun K "digits_of" "digits_of" sdigits_of f fd) (B : Blt mg) (D_must_be_table : DefG P w K mg base "must_be_table" ["x"] 2 spMust) :
    FnG P w K mg base 3 f fd ["table"] spDigits := by
  refine fnG F scdigits_of (fun vs H Q E h => ?_) (fun cdv A fr s H vs Q E hr gd h => ?_)
  · obtain ⟨ds, n, _, rfl, _⟩ := h
    rfl
  · obtain ⟨ds, n, T, rfl, k⟩ := h
    refine ⟨_, (pss_cons (ps_expr (pe_def D_must_be_table (hr.mono (by decide)) gd rfl (pa_cons (pv 0) pa_nil)))
  (pss_one (ps_ret (pe_tup (pa_cons (pe_bm PySem.F.plainAttrs_str PySem.F.slot_str_count PySem.F.type_str_count mt_count (pv 0) (pa_cons pe_str pa_nil)) (pa_cons (pe_bm PySem.F.plainAttrs_str PySem.F.slot_str_count PySem.F.type_str_count mt_count (pv 0) (pa_cons pe_str pa_nil)) (pa_cons (pe_bm PySem.F.plainAttrs_str PySem.F.slot_str_count PySem.F.type_str_count mt_count (pv 0) (pa_cons pe_str pa_nil)) pa_nil))))))), ?_⟩
    refine q_drop (ev_def (ea_cons (ev_var rfl) ea_nil) fun H1 _ Q q => ⟨ds, n, T, rfl, q⟩) fun H0 e0 => ?_
    refine s_retU (eu_tup (ea_cons (ev_count (ev_var rfl) ev_c) (ea_cons (ev_count (ev_var rfl) ev_c) (ea_cons (ev_count (ev_var rfl) ev_c) ea_nil))) (by show 3 ≤ 100000; decide)) fun p H2 hp e2 h2 => ?_
    exact k p H2 (fresh_back e0 hp) (e0.trans e2) h2
abbrev sfixed : Stmt := top 21
abbrev Nfixed : List Str := ["table", "many", "a"]
theorem scfixed : FnScope Nfixed ["table"] (defScope sfixed) := ⟨rfl, rfl, rfl, by decide +kernel, rfl, by decide +kernel, by decide +kernel⟩
def fixedV (ds : List Nat) (n : Nat) : List V := given 3 (fun i => decide (V.int (val ds (List.replicate n i) : Nat) = V.int (i : Int))) (fun i => V.int (i : Int))
def spFixed : Sp := fun vs H Q _ => ∃ (ds : List Nat) (n : Nat), IsTab ds n ∧ vs = [.str (tab ds)] ∧ GivesT (fixedV ds n) H Q
theorem ok_fixed (F : Fun K "fixed" "fixed" sfixed f fd) (B : Blt mg) (D_places : DefG P w K mg base "places" ["table"] 3 spPlaces)
    (D_value : DefG P w K mg base "value" ["table", "arguments"] 5 spValue) : FnG P w K mg base 6 f fd ["table"] spFixed := by
  refine fnG F scfixed (fun vs H Q E h => ?_) (fun cdv A fr s H vs Q E hr gd h => ?_)
  · obtain ⟨ds, n, _, rfl, _⟩ := h
    rfl
  · obtain ⟨ds, n, T, rfl, k⟩ := h
    refine ⟨_, (pss_cons (ps_set (i := 1) scfixed.nd rfl (Or.inr rfl) (pe_def D_places (hr.mono (by decide)) gd rfl (pa_cons (pv 0) pa_nil)))
  (pss_one (ps_ret (pe_callTy call_tuple_of (by rfl) B.m_tuple (by decide +kernel) (pa_cons (pe_lc (own := [("a", 2)]) (g := gName 2) rfl scfixed.nd (pi_tup (pe_tup (pa_cons pe_int (pa_cons pe_int (pa_cons pe_int pa_nil))))) (blkOk_by (own := [("a", 2)]) (N := Nfixed) (sc := defScope sfixed) (by decide +kernel)) (fun _ _ _ _ _ => (pg_name (i := 2) scfixed.nd rfl (Or.inl rfl))) (fun _ _ _ _ _ => (pts_one (pt_cmpR op_eq (pe_def D_value (hr.mono (by decide)) gd rfl (pa_cons (pv 0) (pa_cons (pe_op (show OpR _ _ (rRepK K) from op_repK) (pe_tup (pa_cons (pv 2) pa_nil)) (pv 1)) pa_nil))) (pv 2) (nomark _)))) (fun _ _ _ _ _ => (pv 2))) pa_nil))))), ?_⟩
    refine q_asg (v := .int (n : Int)) (ev_def (ea_cons (ev_var rfl) ea_nil) fun H1 _ Q q => ⟨ds, n, T, rfl, q⟩) fun H0 e0 => ?_
    refine s_retU (xs := fixedV ds n) (eu_tupleN ?_) fun p H2 hp e2 h2 => k p H2 (fresh_back e0 hp) (e0.trans e2) h2
    refine el_lcU (xs := [.int 0, .int 1, .int 2]) (fun i => decide (V.int (val ds (List.replicate n i) : Nat) = V.int (i : Int))) (fun i => V.int (i : Int))
      (eu_tup (ea_cons ev_c (ea_cons ev_c (ea_cons ev_c ea_nil))) (by decide)) (by decide) (fun x => rfl) (fun i x H1 e hx => ?_) (fun i x H1 e hx _ => ?_)
    · obtain ⟨i3, rfl⟩ : i < 3 ∧ x = V.int (i : Int) := by
        match i, hx with
        | 0, hx => exact ⟨by decide, (Option.some.inj hx).symm⟩
        | 1, hx => exact ⟨by decide, (Option.some.inj hx).symm⟩
        | 2, hx => exact ⟨by decide, (Option.some.inj hx).symm⟩
      refine et_test (ev_op (ev_def2U (xs := List.replicate n (V.int (i : Int))) (ev_var rfl) (eu_repK (eu_tup (ea_cons (ev_var rfl) ea_nil) (by show 1 ≤ 100000; decide)) (ev_var rfl) T.n1 (by have := T.n3; omega)) fun p H1 e1 hp Q q =>
        ⟨ds, n, p, List.replicate n i, T, rfl, ?_, by simp, fun a ha => ?_, q⟩) (ev_var rfl) (rv_eq rfl))
      · rw [hp]; simp [iv]
      · rw [(List.mem_replicate.mp ha).2]; exact i3
    · obtain ⟨i3, rfl⟩ : i < 3 ∧ x = V.int (i : Int) := by
        match i, hx with
        | 0, hx => exact ⟨by decide, (Option.some.inj hx).symm⟩
        | 1, hx => exact ⟨by decide, (Option.some.inj hx).symm⟩
        | 2, hx => exact ⟨by decide, (Option.some.inj hx).symm⟩
      exact ev_var rfl
end
end Tv

namespace Tv
open PySem PySem.Spec PyProof.Rows L2 Evl
section
variable {P : Program} {w : World} {K : PySem.W.Frag} {mg : Str → Option Value} {base : Heap} {f aL : Addr} {fd : FuncData}
abbrev sall_tables : Stmt := top 23
abbrev Nall_tables : List Str := ["row", "x"]
theorem scall_tables : FnScope Nall_tables [] (defScope sall_tables) := ⟨rfl, rfl, rfl, by decide +kernel, rfl, by decide +kernel, by decide +kernel⟩
def spAllTables : Sp := fun vs H Q _ => vs = [] ∧ GivesT ((tups 3).map fun r => V.str (tab r)) H Q
theorem ok_all_tables (F : Fun K "all_tables" "all_tables" sall_tables f fd) (B : Blt mg) (D_all_arguments : DefG P w K mg base "all_arguments" ["count"] 2 spAllArgs) :
    FnG P w K mg base 3 f fd [] spAllTables := by
  refine fnG F scall_tables (fun vs H Q E h => ?_) (fun cdv A fr s H vs Q E hr gd h => ?_)
  · obtain ⟨rfl, _⟩ := h
    rfl
  · obtain ⟨rfl, k⟩ := h
    refine ⟨_, (pss_one (ps_ret (pe_callTy call_tuple_of (by rfl) B.m_tuple (by decide +kernel) (pa_cons (pe_lc (own := [("row", 0)]) (g := gName 0) rfl scall_tables.nd (pi_list (pe_def D_all_arguments (hr.mono (by decide)) gd rfl (pa_cons pe_int pa_nil))) (blkOk_by (own := [("row", 0)]) (N := Nall_tables) (sc := defScope sall_tables) (by decide +kernel)) (fun _ _ _ _ _ => (pg_name (i := 0) scall_tables.nd rfl (Or.inl rfl))) (fun _ _ _ _ _ => pts_nil) (fun _ _ _ _ _ => (show PE _ _ (tM1 (rJoin K) _ _) from pe_join pe_str (pe_lc (own := [("x", 1)]) (g := gName 1) rfl scall_tables.nd (show PI _ _ _ (iTup K _) from (pi_tup (pv 0))) (blkOk_by (own := [("x", 1)]) (by rfl)) (fun _ _ _ _ _ => (pg_name (i := 1) scall_tables.nd rfl (Or.inl rfl))) (fun _ _ _ _ _ => pts_nil) (fun _ _ _ _ _ => (pe_callTy call_str_int (by rfl) B.m_str (by decide +kernel) (pa_cons (pv 1) pa_nil))))))) pa_nil)))), ?_⟩
    refine s_retU (xs := (tups 3).map fun r => V.str (tab r)) (eu_tupleN fun H1 e Q1 q => ?_) k
    refine ⟨3, by decide, rfl, fun p H2 xs hp e2 hx R => ⟨p, rfl, ⟨xs, SqL.of hx⟩, fun D hD => lc_list (K := K) (xs := xs)
      (Cw H2 (fun _ => true) (fun i => .str (tab ((tups 3).getD i []))) D) ⟨hD, Ex.new hD, upd_same⟩ (fun i H' _ pc => sq_of (pc.2.1 _ _ hx)) (fun i x H' hi pc => ⟨rfl, ?_⟩) (fun H' pc => ?_)⟩⟩
    · obtain ⟨r, hr', ra, rfl, hra⟩ := R.get hi
      have rl := tups_short (by decide) hr'
      have r3 : ∀ a ∈ r, a < 3 := by
        obtain ⟨lt, e3⟩ := List.getElem?_eq_some_iff.mp hr'
        have h1 := ((tups_ok 3 (by decide)).2 i lt).2.2
        rw [List.getD_eq_getElem?_getD, hr'] at h1
        intro a ha
        exact of_decide_eq_true (List.all_eq_true.mp h1 a ha)
      have il : i < 27 := by
        have := (List.getElem?_eq_some_iff.mp hr').1
        exact this
      refine cw_turn pc (by omega) et_yes fun _ => ?_
      have er : (tups 3).getD i [] = r := by rw [List.getD_eq_getElem?_getD, hr']; rfl
      rw [er]
      refine ev_joinTab ev_c ?_ (by omega)
      have eg : (r.map fun d => (⟨#[48 + d]⟩ : Str)).map V.str = given (iv r).length (fun _ => true) (fun i => .str ⟨#[48 + r.getD i 0]⟩) := by
        rw [iv_len, given_iv 0 r (fun d => V.str ⟨#[48 + d]⟩), List.map_map]
        rfl
      rw [eg]
      refine el_lcT (a := ra) (xs := iv r) (fun _ => true) (fun i => .str ⟨#[48 + r.getD i 0]⟩) (ev_var rfl) (st_of hra) (by rw [iv_len]; omega) (fun y => rfl)
        (fun i x H1 e hx => et_yes) (fun i x H1 e hx _ => ?_)
      obtain ⟨a, ha, rfl⟩ := iv_at hx
      have ea : r.getD i 0 = a := by rw [List.getD_eq_getElem?_getD, ha]; rfl
      rw [ea]
      exact ev_strInt (ev_var rfl) (r3 a (List.mem_of_getElem? ha))
    · have h3 := pc.2.2
      rw [R.len, given_iv [] (tups 3) (fun r => V.str (tab r))] at h3
      exact q D H' (fresh_back e2 pc.1) (e2.trans pc.2.1) h3
end
end Tv

namespace Tv
open PySem PySem.Spec PyProof.Rows L2 Evl
section
variable {P : Program} {w : World} {K : PySem.W.Frag} {mg : Str → Option Value} {base : Heap} {f aL : Addr} {fd : FuncData}
abbrev slaw_tuples : Stmt := top 28
abbrev Nlaw_tuples : List Str := ["size", "found", "k", "later", "some"]
theorem sclaw_tuples : FnScope Nlaw_tuples ["size"] (defScope slaw_tuples) := ⟨rfl, rfl, rfl, by decide +kernel, rfl, by decide +kernel, by decide +kernel⟩
theorem ok_tuples (F : Fun K "_law_tuples" "_law_tuples" slaw_tuples f fd) (B : Blt mg) : FnG P w K mg base 1 f fd ["size"] spAllArgs := by
  refine fnG F sclaw_tuples (fun vs H Q E h => ?_) (fun cdv A fr s H vs Q E hr gd h => ?_)
  · obtain ⟨n, _, rfl, _⟩ := h
    rfl
  · obtain ⟨n, n3, rfl, k⟩ := h
    refine ⟨_, (pss_cons (ps_set (i := 1) sclaw_tuples.nd rfl (Or.inl rfl) (pe_lst (pa_cons (pe_tup pa_nil) pa_nil)))
  (pss_cons (ps_for PassesOwn.never rfl (pi_range1 rfl B.m_range (pa_cons (pv 0) pa_nil)) (pg_name (i := 2) sclaw_tuples.nd rfl (Or.inl rfl)) (pss_cons (ps_set (i := 3) sclaw_tuples.nd rfl (Or.inl rfl) (pe_lst pa_nil))
  (pss_cons (ps_for PassesOwn.never rfl (pi_list (pv 1)) (pg_name (i := 4) sclaw_tuples.nd rfl (Or.inl rfl)) (pss_one (ps_set (i := 3) sclaw_tuples.nd rfl (Or.inl rfl) (pe_op op_cat (pv 3) (pe_lst (pa_cons (pe_op op_catA (pv 4) (pe_tup (pa_cons pe_int pa_nil))) (pa_cons (pe_op op_catA (pv 4) (pe_tup (pa_cons pe_int pa_nil))) (pa_cons (pe_op op_catA (pv 4) (pe_tup (pa_cons pe_int pa_nil))) pa_nil))))))))
  (pss_one (ps_set (i := 1) sclaw_tuples.nd rfl (Or.inl rfl) (pv 3))))))
  (pss_one (ps_ret (pv 1))))), ?_⟩
    refine ⟨by decide, fun t ht => ⟨by show 1 ≤ sizeLine; decide, fun l hl => ?_⟩⟩
    have tl : t ≠ l := ne_of_none upd_same hl
    refine ⟨_, rfl, (n : Int), rfl, by omega, by omega, for_range (lo := 0) (n := n)
      (fun i σ H2 => ∃ (l2 : Addr) (xs : List V) (v v1 v2 : Option V), σ = [some (.int (n : Int)), some (.ref l2), v, v1, v2] ∧ H l2 = none ∧ Ex H H2 ∧ H2 l2 = some (.lst xs) ∧ Rows H2 xs (tups i)) ?_ ?_ ?_⟩
    · refine ⟨l, [.ref t], none, none, none, rfl, ?_, ?_, upd_same, .cons ⟨t, rfl, by rw [upd_ne tl, upd_same]; rfl⟩ .nil⟩
      · exact fresh_back (Ex.new ht) hl
      · exact (Ex.new ht).trans (Ex.new hl)
    · rintro i σ H2 hi ⟨l2, xs, v, v1, v2, rfl, hl0, e2, hl2, R⟩
      have i3 : i ≤ 3 := by omega
      refine ⟨by decide, fun l3 hl3 => ⟨_, rfl, l2, rfl, ⟨xs, SqL.of (by rw [upd_ne (ne_of_none hl2 hl3)]; exact hl2)⟩, for_list (K := K) (a := l2) (xs := xs)
        (fun j σ H3 => ∃ (l4 : Addr) (ys : List V) (u : Option V), σ = [some (.int (n : Int)), some (.ref l2), some (.int (0 + (i : Int))), some (.ref l4), u] ∧ H2 l4 = none ∧ Ex H2 H3 ∧
          H3 l4 = some (.lst ys) ∧ Rows H3 ys (((tups i).take j).flatMap ext)) ?_ (fun j σ H3 _ ⟨_, _, _, _, _, e3, _⟩ => SqL.of (e3 _ _ hl2)) ?_ ?_⟩⟩
      · exact ⟨l3, [], v2, rfl, hl3, Ex.new hl3, upd_same, .nil⟩
      · rintro j x σ H3 hx ⟨l4, ys, u, rfl, hl4, e3, h4, R3⟩
        obtain ⟨r, hr', rx⟩ := R.get hx
        have rl : r.length ≤ 100 := tups_short i3 hr'
        have step : ∀ {H4 : Hp} (m : Nat) {Q : VK}, Ex H2 H4 → (∀ y H', Ex H4 H' → IsRow H' y (r ++ [m]) → Q y H') → ∀ q, H4 q = none → rCatA K x (.ref q) (upd H4 q (.tup [V.int (m : Int)])) Q := fun {H4} m {Q} e4 hQ q hq => by
          have ez := Ex.new (o := .tup [V.int (m : Int)]) hq
          have rx5 : IsRow (upd H4 q (.tup [V.int (m : Int)])) x r := by
            obtain ⟨a', e', h'⟩ := rx
            exact ⟨a', e', ez _ _ (e4 _ _ h')⟩
          exact catA_row rx5 rl upd_same fun y H5 e5 ry => hQ y H5 (ez.trans e5) ry
        refine ⟨_, rfl, _, rfl, (by show 1 ≤ sizeLine; decide), fun q0 hq0 => step 0 e3 (fun y0 H4 e4 r0 => ?_) q0 hq0⟩
        refine ⟨_, rfl, (by show 1 ≤ sizeLine; decide), fun q1 hq1 => step 1 (e3.trans e4) (fun y1 H5 e5 r1 => ?_) q1 hq1⟩
        refine ⟨_, rfl, (by show 1 ≤ sizeLine; decide), fun q2 hq2 => step 2 ((e3.trans e4).trans e5) (fun y2 H6 e6 r2 => ?_) q2 hq2⟩
        refine ⟨by show 3 ≤ sizeLine; decide, fun q3 hq3 => ?_⟩
        have e36 := (e4.trans e5).trans e6
        have n3' : l4 ≠ q3 := ne_of_none (e36 _ _ h4) hq3
        refine ⟨l4, q3, ys, [y0, y1, y2], rfl, rfl, by rw [upd_ne n3']; exact e36 _ _ h4, upd_same, ?_, fun p hp => ?_⟩
        · rw [R3.len]
          have s1 := (flat_small (n := i) (i := j) i3).2
          exact Nat.le_trans (by show _ + 3 ≤ 84; omega) (by decide : 84 ≤ sizeLine)
        · have e7 := (Ex.new (o := .lst [y0, y1, y2]) hq3).trans (Ex.new (o := .lst (ys ++ [y0, y1, y2])) hp)
          refine ⟨p, ys ++ [y0, y1, y2], some x, rfl, fresh_back ((e3.trans e36).trans (Ex.new hq3)) hp, (e3.trans e36).trans e7, upd_same, ?_⟩
          rw [flat_take hr']
          refine Rows.append (R3.mono (e36.trans e7)) (.cons ?_ (.cons ?_ (.cons ?_ .nil)))
          · obtain ⟨a, ha, hb⟩ := r0
            exact ⟨a, ha, e7 _ _ (e6 _ _ (e5 _ _ hb))⟩
          · obtain ⟨a, ha, hb⟩ := r1
            exact ⟨a, ha, e7 _ _ (e6 _ _ hb)⟩
          · obtain ⟨a, ha, hb⟩ := r2
            exact ⟨a, ha, e7 _ _ hb⟩
      · rintro σ H3 ⟨l4, ys, u, rfl, hl4, e3, h4, R3⟩
        rw [R.len, List.take_length] at R3
        exact ⟨_, rfl, l4, ys, _, _, _, rfl, fresh_back e2 hl4, e2.trans e3, h4, R3⟩
    · rintro σ H2 ⟨l2, xs, v, v1, v2, rfl, hl0, e2, hl2, R⟩
      exact ⟨_, rfl, k l2 H2 xs hl0 e2 hl2 R⟩
abbrev slaw_at : Stmt := top 29
abbrev Nlaw_at : List Str := ["sheet_now", "some", "index_now", "each"]
theorem sclaw_at : FnScope Nlaw_at ["sheet_now", "some"] (defScope slaw_at) := ⟨rfl, rfl, rfl, by decide +kernel, rfl, by decide +kernel, by decide +kernel⟩
theorem ok_at (F : Fun K "_law_at" "_law_at" slaw_at f fd) (B : Blt mg) : FnG P w K mg base 1 f fd ["sheet_now", "some"] spValue := by
  refine fnG F sclaw_at (fun vs H Q E h => ?_) (fun cdv A fr s H vs Q E hr gd h => ?_)
  · obtain ⟨ds, n, p, as, _, rfl, _⟩ := h
    rfl
  · obtain ⟨ds, n, p, as, T, rfl, hp, hl, hd, k⟩ := h
    refine ⟨_, (pss_cons (ps_set (i := 2) sclaw_at.nd rfl (Or.inl rfl) pe_int)
  (pss_cons (ps_for PassesOwn.never rfl (pi_tup (pv 1)) (pg_name (i := 3) sclaw_at.nd rfl (Or.inl rfl)) (pss_one (ps_set (i := 2) sclaw_at.nd rfl (Or.inl rfl) (pe_op op_add (pe_op op_mul pe_int (pv 2)) (pv 3)))))
  (pss_one (ps_ret (pe_callTy call_int_str (by rfl) B.m_int (by decide +kernel) (pa_cons (pe_ix ix_str (pv 0) (pv 2) (fun _ _ => rfl)) pa_nil)))))), ?_⟩
    refine ⟨_, rfl, p, rfl, ⟨_, SqT.of hp⟩, for_tup (K := K) (a := p) (xs := iv as)
      (fun i σ H2 => H2 = H ∧ ∃ v : Option V, σ = [some (.str (tab ds)), some (.ref p), some (.int (num (as.take i) : Nat)), v]) ⟨rfl, none, rfl⟩ (fun i σ H2 _ e => by rw [e.1]; exact SqT.of hp) ?_ ?_⟩
    · rintro i x σ H2 hi ⟨rfl, v, rfl⟩
      obtain ⟨a, ha, rfl⟩ := iv_at hi
      refine ⟨_, rfl, _, _, rfl, rfl, Or.inl ⟨by decide, by decide⟩, _, rfl, _, _, rfl, rfl, rfl, some (.int (a : Int)), ?_⟩
      rw [num_take ha]
      show [some (V.str (tab ds)), some (V.ref p), some (V.int (3 * ((num (as.take i) : Nat) : Int) + (a : Int))), some (V.int (a : Int))] = _
      have e : (3 * ((num (as.take i) : Nat) : Int) + (a : Int)) = ((3 * num (as.take i) + a : Nat) : Int) := by omega
      rw [e]
    · rintro σ H2 ⟨rfl, v, rfl⟩
      rw [iv_len, List.take_length]
      obtain ⟨g1, g2⟩ := T.at hl hd
      refine ⟨_, rfl, _, rfl, tab ds, _, 48 + val ds as, rfl, rfl, T.size, ?_, ⟨#[48 + val ds as]⟩, _, rfl, int_digit _ g2, (by show 1 ≤ 640; decide), k H2 (Ex.refl H2)⟩
      rw [tab_cps]
      exact atI_nat (by rw [List.getElem?_map, g1]; rfl)
abbrev slaw_places : Stmt := top 30
abbrev Nlaw_places : List Str := ["sheet_now"]
theorem sclaw_places : FnScope Nlaw_places ["sheet_now"] (defScope slaw_places) := ⟨rfl, rfl, rfl, by decide +kernel, rfl, by decide +kernel, by decide +kernel⟩
theorem ok_lplaces (F : Fun K "_law_places" "_law_places" slaw_places f fd) (B : Blt mg) : FnG P w K mg base 1 f fd ["sheet_now"] spPlaces := by
  refine fnG F sclaw_places (fun vs H Q E h => ?_) (fun cdv A fr s H vs Q E hr gd h => ?_)
  · obtain ⟨ds, n, _, rfl, _⟩ := h
    rfl
  · obtain ⟨ds, n, T, rfl, k⟩ := h
    refine ⟨_, (pss_one (ps_ret (pe_op op_add (pe_bm PySem.F.plainAttrs_list PySem.F.slot_list_index PySem.F.type_list_index mt_index (pe_lst (pa_cons pe_int (pa_cons pe_int (pa_cons pe_int pa_nil)))) (pa_cons (pe_callB call_len (by rfl) B.m_len (by decide +kernel) (pa_cons (pv 0) pa_nil)) pa_nil)) pe_int))), ?_⟩
    refine ⟨by show 3 ≤ sizeLine; decide, fun l hl => ⟨Or.inl ⟨rfl, _, SqL.of upd_same⟩, _, rfl, .str (tab ds), (tab ds).length, rfl, ⟨T.size, rfl⟩, ?_⟩⟩
    have fin : ∀ j : Nat, n = j + 1 → Q (.int ((j : Int) + 1)) (upd H l (.lst [.int 3, .int 9, .int 27])) := fun j e => by
      have e2 : ((j : Int) + 1) = (n : Int) := by omega
      rw [e2]
      exact k _ (Ex.new hl)
    rcases T.cases with ⟨e, q⟩ | ⟨e, q⟩ | ⟨e, q⟩
    · refine ⟨l, _, _, 0, .int 3, rfl, rfl, SqL.of upd_same, rfl, rfl, rfl, ?_, fun m z hm => absurd hm (Nat.not_lt_zero _), _, _, rfl, rfl, fin 0 e⟩
      rw [tab_len, q]; decide
    · refine ⟨l, _, _, 1, .int 9, rfl, rfl, SqL.of upd_same, rfl, rfl, rfl, ?_, fun m z hm hz => ?_, _, _, rfl, rfl, fin 1 e⟩
      · rw [tab_len, q]; decide
      · obtain rfl : m = 0 := by omega
        cases hz
        rw [tab_len, q]; decide
    · refine ⟨l, _, _, 2, .int 27, rfl, rfl, SqL.of upd_same, rfl, rfl, rfl, ?_, fun m z hm hz => ?_, _, _, rfl, rfl, fin 2 e⟩
      · rw [tab_len, q]; decide
      · have : m = 0 ∨ m = 1 := by omega
        rcases this with rfl | rfl
        · cases hz
          rw [tab_len, q]; decide
        · cases hz
          rw [tab_len, q]; decide
abbrev slaw_counting : Stmt := top 31
abbrev Nlaw_counting : List Str := ["sheet_now", "size", "found", "k", "some", "changed", "each"]
theorem sclaw_counting : FnScope Nlaw_counting ["sheet_now"] (defScope slaw_counting) := ⟨rfl, rfl, rfl, by decide +kernel, rfl, by decide +kernel, by decide +kernel⟩
/-- the law's own look: whether the values part when the k-th is changed -/
def parts (ds as : List Nat) (k : Nat) : Bool := !PyData.eqv (.list [.int (val ds (as.set k 0) : Nat), .int (val ds (as.set k 1) : Nat), .int (val ds (as.set k 2) : Nat)])
  (.list [.int (val ds (as.set k 0) : Nat), .int (val ds (as.set k 0) : Nat), .int (val ds (as.set k 0) : Nat)])
def lawB (ds : List Nat) (n k : Nat) : Bool := (tups n).any fun as => parts ds as k
abbrev GivesL (xs : List V) (H : Hp) (Q : VK) : Prop := ∀ p H', H p = none → Ex H H' → H' p = some (.lst xs) → Q (.ref p) H'
def spLCounting : Sp := fun vs H Q _ => ∃ (ds : List Nat) (n : Nat), IsTab ds n ∧ vs = [.str (tab ds)] ∧ GivesL (given n (lawB ds n) (fun i => V.int (i : Int))) H Q
theorem inV_given (k : Nat) (F : Nat → Bool) (l : List V) : inV (.int (k : Int)) (given k F (fun i => V.int (i : Int)) ++ l) = inV (.int (k : Int)) l := by
  unfold inV
  rw [List.any_append]
  have e : (given k F (fun i => V.int (i : Int))).any (fun y => eqV y (.int (k : Int))) = false := by
    rw [List.any_eq_false]
    intro x hx
    obtain ⟨i, hi, _, rfl⟩ := given_mem hx
    show ¬ ((i : Int) == (k : Int)) = true
    rw [beq_iff_eq]
    omega
  rw [e, Bool.false_or]
theorem ok_lcounting (F : Fun K "_law_counting" "_law_counting" slaw_counting f fd) (B : Blt mg) (D__law_places : DefG P w K mg base "_law_places" ["sheet_now"] 1 spPlaces)
    (D__law_tuples : DefG P w K mg base "_law_tuples" ["size"] 1 spAllArgs) (D__law_at : DefG P w K mg base "_law_at" ["sheet_now", "some"] 1 spValue) :
    FnG P w K mg base 2 f fd ["sheet_now"] spLCounting := by
  refine fnG F sclaw_counting (fun vs H Q E h => ?_) (fun cdv A fr s H vs Q E hr gd h => ?_)
  · obtain ⟨ds, n, _, rfl, _⟩ := h
    rfl
  · obtain ⟨ds, n, T, rfl, k⟩ := h
    refine ⟨_, (pss_cons (ps_par (i := 1) (j := 2) (by rfl) sclaw_counting.nd rfl rfl (by decide) rfl rfl (pa_cons (pe_def D__law_places (hr.mono (by decide)) gd rfl (pa_cons (pv 0) pa_nil)) (pa_cons (pe_lst pa_nil) pa_nil)) (by rfl))
  (pss_cons (ps_for PassesOwn.never rfl (pi_range1 rfl B.m_range (pa_cons (pv 1) pa_nil)) (pg_name (i := 3) sclaw_counting.nd rfl (Or.inr rfl)) (pss_one (ps_for PassesOwn.never rfl (pi_list (pe_def D__law_tuples (hr.mono (by decide)) gd rfl (pa_cons (pv 1) pa_nil))) (pg_name (i := 4) sclaw_counting.nd rfl (Or.inr rfl)) (pss_cons (ps_setLc (i := 5) (own := [("each", 6)]) (g := gName 6) rfl sclaw_counting.nd rfl rfl (sw_true rfl rfl rfl (by decide +kernel)) (pi_range1 rfl B.m_range (pa_cons pe_int pa_nil)) (blkOk_by (own := [("each", 6)]) (N := Nlaw_counting) (sc := defScope slaw_counting) (by decide +kernel)) (fun _ _ _ _ _ => (pg_name (i := 6) sclaw_counting.nd rfl (Or.inl rfl))) (fun _ _ _ _ _ => pts_nil) (fun _ _ _ _ _ => (pe_def D__law_at (hr.mono (by decide)) gd rfl (pa_cons (pv 0) (pa_cons (pe_op (show OpR _ _ (rCatA K) from op_catA) (pe_op (show OpR _ _ (rCatA K) from op_catA) (pe_slice (show SlR _ (rSlA K) from sl_tupA) (pv 4) po_none (po_some (pv 3))) (pe_tup (pa_cons (pv 6) pa_nil))) (pe_slice (show SlR _ (rSlA K) from sl_tupA) (pv 4) (po_some (pe_op op_add (pv 3) pe_int)) po_none)) pa_nil)))))
  (pss_one (ps_if (PW.pt (pw_and (pt_cmpR (op_neD (hr.units)) (pv 5) (pe_op op_rep (pe_lst (pa_cons (pe_ix ix_list (pv 5) pe_int (fun _ _ => rfl)) pa_nil)) pe_int) (nomark _)) (pw_and1 (pt_cmpR op_notIn_seq (pv 3) (pv 2) (by rfl))))) (pss_one (ps_expr (pe_bm PySem.F.plainAttrs_list PySem.F.slot_list_append PySem.F.type_list_append mt_append (pv 2) (pa_cons (pv 3) pa_nil)))) pss_nil))))))
  (pss_one (ps_ret (pv 2))))), ?_⟩
    refine ⟨_, rfl, ds, n, T, rfl, fun H1 e1 => ⟨by decide, fun lf hlf => ⟨_, _, rfl, ?_⟩⟩⟩
    have n3 := T.n3
    refine ⟨_, rfl, (n : Int), rfl, by omega, by omega, for_range (lo := 0) (n := n)
      (fun i σ H2 => ∃ v3 v4 v5 : Option V, σ = [some (.str (tab ds)), some (.int (n : Int)), some (.ref lf), v3, v4, v5, none] ∧ Ex H1 H2 ∧
        H2 lf = some (.lst (given i (lawB ds n) (fun i => V.int (i : Int))))) ⟨none, none, none, rfl, Ex.new hlf, upd_same⟩ ?_ ?_⟩
    · rintro i σ H2 hi ⟨v3, v4, v5, rfl, e2, h2⟩
      refine ⟨_, rfl, n, Nat.le_succ_of_le n3, rfl, fun lt H3 xs hlt e3 hx R => ⟨lt, rfl, ⟨xs, SqL.of hx⟩, for_list (K := K) (a := lt) (xs := xs)
        (fun j σ H4 => ∃ v4 v5 : Option V, σ = [some (.str (tab ds)), some (.int (n : Int)), some (.ref lf), some (.int (0 + (i : Int))), v4, v5, none] ∧ But lf H3 H4 ∧
          H4 lf = some (.lst (given i (lawB ds n) (fun i => V.int (i : Int)) ++ if ((tups n).take j).any (fun as => parts ds as i) = true then [V.int (i : Int)] else []))) ?_ ?_ ?_ ?_⟩⟩
      · exact ⟨v4, v5, rfl, fun _ _ _ h => h, by rw [List.take_zero]; show _ = some (HO.lst (_ ++ [])); rw [List.append_nil]; exact e3 _ _ h2⟩
      · rintro j σ H4 _ ⟨_, _, _, bt, _⟩
        exact SqL.of (bt _ _ (fun z => by rw [z] at hlt; rw [h2] at hlt; cases hlt) hx)
      · rintro j x σ H4 hj ⟨w4, w5, rfl, bt, h4⟩
        obtain ⟨as, ha, ra, rfl, hra⟩ := R.get hj
        obtain ⟨jl, ja⟩ := List.getElem?_eq_some_iff.mp ha
        have tk := (tups_ok n n3).2 j jl
        have as0 : (tups n).getD j [] = as := by rw [List.getD_eq_getElem?_getD, ha]; rfl
        rw [as0] at tk
        have asl : as.length = n := tk.2.1
        have as3 : ∀ a ∈ as, a < 3 := fun a ha => of_decide_eq_true (List.all_eq_true.mp tk.2.2 a ha)
        have h3f := e3 _ _ h2
        have hra4 : H4 ra = some (.tup (iv as)) := bt _ _ (fun z => by rw [z, h3f] at hra; cases hra) hra
        have z0 : (0 : Int) + (i : Int) = (i : Int) := Int.zero_add _
        rw [z0]
        refine q_asgL (xs := [.int (val ds (as.set i 0) : Nat), .int (val ds (as.set i 1) : Nat), .int (val ds (as.set i 2) : Nat)]) ?_ ?_
        · have eg : ([.int (val ds (as.set i 0) : Nat), .int (val ds (as.set i 1) : Nat), .int (val ds (as.set i 2) : Nat)] : List V) = given (3 : Int).toNat (fun _ => true) (fun e => .int (val ds (as.set i e) : Nat)) := rfl
          rw [eg]
          refine el_lcR1 (fun _ => true) (fun e => .int (val ds (as.set i e) : Nat)) (ea_cons ev_c ea_nil) ⟨by decide, by decide⟩ (fun y => rfl) (fun e H5 e5 he => et_yes) (fun e H5 e5 he _ => ?_)
          have il : i < as.length := by omega
          refine ev_defRow (as := as.take i ++ [e] ++ as.drop (i + 1)) (ev_var rfl) (evr_cat (evr_cat (evr_take (ev_var rfl) (e5 _ _ hra4) (ev_var rfl) il) (evr_one (ev_var rfl)) ?_) (evr_drop (ev_var rfl) (e5 _ _ hra4) (ev_op (ev_var rfl) ev_c rv_I0) il) ?_) fun p H6 e6 hp Q6 q6 => ?_
          · simp; omega
          · simp; omega
          · rw [set_split as i e il] at hp
            refine ⟨ds, n, p, as.set i e, T, rfl, hp, by rw [List.length_set]; exact asl, fun a ha => ?_, q6⟩
            rcases List.mem_or_eq_of_mem_set ha with h | h
            · exact as3 a h
            · omega
        · intro lc H5 hlc e5 h5
          have f5 := e5 _ _ h4
          refine s_when (b := parts ds as i && !inV (.int (i : Int)) (given i (lawB ds n) (fun i => V.int (i : Int)) ++ if ((tups n).take j).any (fun as => parts ds as i) = true then [V.int (i : Int)] else [])) ?_ ?_ ?_
          · refine et_and (et_test (ev_opL (xs := [.int (val ds (as.set i 0) : Nat), .int (val ds (as.set i 0) : Nat), .int (val ds (as.set i 0) : Nat)]) (ev_var rfl)
              (el_rep3 (xs := [.int (val ds (as.set i 0) : Nat)]) (el_lst (ea_cons (ev_op (ev_var rfl) ev_c (rv_ixL (sq_of h5) rfl)) ea_nil) (by show 1 ≤ 100000; decide)) (by show 1 ≤ 1000; decide)) fun p H6 hp e6 => ?_)) fun _ => ?_
            · intro H7 e7 Q7 q7
              exact ⟨_, _, .lst (sq_of (e7 _ _ (e6 _ _ h5))) (.cons (.int _) (.cons (.int _) (.cons (.int _) .nil))), .lst (sq_of (e7 _ _ hp)) (.cons (.int _) (.cons (.int _) (.cons (.int _) .nil))), rfl, rfl, q7 H7 (Ex.refl H7)⟩
            · refine et_test (ev_op (ev_var rfl) (ev_var rfl) (rv_niL (sq_of f5) rfl ?_))
              rw [List.all_append, Bool.and_eq_true]
              refine ⟨List.all_eq_true.mpr fun x hx => ?_, ?_⟩
              · obtain ⟨m, _, _, rfl⟩ := given_mem hx
                rfl
              · split <;> rfl
          · intro hb H6 e6
            rw [Bool.and_eq_true] at hb
            have hA : ((tups n).take j).any (fun as => parts ds as i) = false := by
              cases hA : ((tups n).take j).any (fun as => parts ds as i) with
              | false => rfl
              | true =>
                rw [hA, inV_given] at hb
                exact absurd hb.2 (by simp [inV, eqV])
            have f6 := e6 _ _ f5
            refine s_app f6 (ev_var rfl) (ev_var rfl) ?_ fun H7 e7 => ⟨some (.ref ra), some (.ref lc), rfl, ?_, ?_⟩
            · rw [hA]
              have := given_len i (lawB ds n) (fun i => V.int (i : Int))
              simp
              omega
            · intro b o nb h
              rw [upd_ne nb]
              exact e7 _ _ (e6 _ _ (e5 _ _ (bt b o nb h)))
            · rw [upd_same, List.take_succ, ha, List.any_append, hA]
              have e9 : (some as).toList.any (fun as => parts ds as i) = true := by simp [hb.1]
              rw [e9]
              show some (HO.lst (given i (lawB ds n) (fun i => V.int (i : Int)) ++ [] ++ [V.int (i : Int)])) = _
              rw [List.append_nil]
              rfl
          · intro hb H6 e6
            refine ⟨some (.ref ra), some (.ref lc), rfl, fun b o nb h => e6 _ _ (e5 _ _ (bt b o nb h)), ?_⟩
            rw [e6 _ _ f5, List.take_succ, ha, List.any_append]
            have e9 : (some as).toList.any (fun as => parts ds as i) = parts ds as i := by simp
            rw [e9]
            cases hA : ((tups n).take j).any (fun as => parts ds as i) with
            | true => rfl
            | false =>
              rw [hA, inV_given] at hb
              have : parts ds as i = false := by
                cases hp : parts ds as i with
                | false => rfl
                | true =>
                  rw [hp] at hb
                  exact absurd hb (by simp [inV])
              rw [this]
              rfl
      · rintro σ H4 ⟨w4, w5, rfl, bt, h4⟩
        rw [R.len, List.take_length] at h4
        refine ⟨some (.int (0 + (i : Int))), w4, w5, rfl, fun b o h => bt b o (ne_of_none h hlf) (e3 _ _ (e2 _ _ h)), ?_⟩
        rw [h4]
        cases hb : lawB ds n i with
        | true =>
          rw [given_yes hb]
          have : (tups n).any (fun as => parts ds as i) = true := hb
          rw [this]
          rfl
        | false =>
          rw [given_no hb]
          have : (tups n).any (fun as => parts ds as i) = false := hb
          rw [this]
          show some (HO.lst (_ ++ [])) = _
          rw [List.append_nil]
    · rintro σ H2 ⟨v3, v4, v5, rfl, e2, h2⟩
      exact ⟨_, rfl, k lf H2 (fresh_back e1 hlf) (e1.trans e2) h2⟩
abbrev slaw_table : Stmt := top 32
abbrev Nlaw_table : List Str := ["spring", "size", "known", "k"]
theorem sclaw_table : FnScope Nlaw_table ["spring", "size"] (defScope slaw_table) := ⟨rfl, rfl, rfl, by decide +kernel, rfl, by decide +kernel, by decide +kernel⟩
def spTable : Sp := fun vs H Q _ => ∃ (p : Addr) (n : Nat), vs = [.ref p, .int (n : Int)] ∧ Spr H p ∧ 1 ≤ n ∧ n ≤ 3 ∧
  ∀ (ds : List Nat) (H' : Hp), IsTab ds n → Spr H' p → But p H H' → Q (.str (tab ds)) H'
def known1 : List (List Nat) := [[0,1,2],[1,2,0],[2,0,1],[2,1,0],[1,0,2],[0,0,0],[1,1,1],[0,0,1],[1,2,2],[0,2,0]]
def known2a : List (List Nat) := [[0,1,2,1,1,2,2,2,2],[0,0,0,0,1,1,0,1,2],[0,1,2,1,2,0,2,0,1],[1,2,0,2,2,0,0,0,0],[0,0,0,1,1,1,2,2,2],[0,1,2,0,1,2,0,1,2]]
def known2b : List (List Nat) := [[0,0,0,0,0,0,0,1,2],[0,2,1,1,0,2,2,1,0]]
theorem known1_ok : ∀ ds ∈ known1, IsTab ds 1 := fun ds h => ⟨by decide, by decide, (by decide : ∀ ds ∈ known1, ds.length = 3 ^ 1) ds h, (by decide : ∀ ds ∈ known1, ∀ d ∈ ds, d < 3) ds h⟩
theorem known2_ok : ∀ ds ∈ known2a ++ known2b, IsTab ds 2 := fun ds h => ⟨by decide, by decide, (by decide : ∀ ds ∈ known2a ++ known2b, ds.length = 3 ^ 2) ds h, (by decide : ∀ ds ∈ known2a ++ known2b, ∀ d ∈ ds, d < 3) ds h⟩
theorem ok_table (F : Fun K "_law_table" "_law_table" slaw_table f fd) (B : Blt mg) (D__law_draw : DefG P w K mg base "_law_draw" ["spring", "size"] 1 spDraw)
    (D__law_of : DefG P w K mg base "_law_of" ["spring", "menu"] 2 (spOf K)) : FnG P w K mg base 3 f fd ["spring", "size"] spTable := by
  refine fnG F sclaw_table (fun vs H Q E h => ?_) (fun cdv A fr s H vs Q E hr gd h => ?_)
  · obtain ⟨p, n, rfl, _⟩ := h
    rfl
  · obtain ⟨p, n, rfl, S, n1, n3, k⟩ := h
    refine ⟨_, (pss_cons (ps_set (i := 2) sclaw_table.nd rfl (Or.inl rfl) (pe_lst (pa_cons (pe_lst (pa_cons pe_str (pa_cons pe_str (pa_cons pe_str (pa_cons pe_str (pa_cons pe_str (pa_cons pe_str (pa_cons pe_str (pa_cons pe_str (pa_cons pe_str (pa_cons pe_str pa_nil))))))))))) pa_nil)))
  (pss_cons (ps_expr (pe_bm PySem.F.plainAttrs_list PySem.F.slot_list_append PySem.F.type_list_append mt_append (pv 2) (pa_cons (pe_lst (pa_cons pe_str (pa_cons pe_str (pa_cons pe_str (pa_cons pe_str (pa_cons pe_str (pa_cons pe_str pa_nil))))))) pa_nil)))
  (pss_cons (ps_asg (pe_op op_cat (pe_ix ix_list (pv 2) pe_int (fun _ _ => rfl)) (pe_lst (pa_cons pe_str (pa_cons pe_str pa_nil)))) (pg_sub (pv 2) pe_int set_list))
  (pss_cons (ps_if (PW.pt (pw_and (pt_cmpR op_lt (pv 1) pe_int (nomark _)) (pw_and1 (pt_cmpR op_eq (pe_def D__law_draw (hr.mono (by decide)) gd rfl (pa_cons (pv 0) (pa_cons pe_int pa_nil))) pe_int (nomark _))))) (pss_one (ps_ret (pe_def D__law_of (hr.mono (by decide)) gd rfl (pa_cons (pv 0) (pa_cons (pe_ix ix_list (pv 2) (pe_op op_sub (pv 1) pe_int) (fun _ _ => rfl)) pa_nil))))) pss_nil)
  (pss_one (ps_ret (show PE _ _ (tM1 (rJoin K) _ _) from pe_join pe_str (pe_lc (own := [("k", 3)]) (g := gName 3) rfl sclaw_table.nd (pi_range1 rfl B.m_range (pa_cons (pe_ix ix_list (pe_lst (pa_cons pe_int (pa_cons pe_int (pa_cons pe_int pa_nil)))) (pe_op op_sub (pv 1) pe_int) (fun _ _ => rfl)) pa_nil)) (blkOk_by (own := [("k", 3)]) (N := Nlaw_table) (sc := defScope slaw_table) (by decide +kernel)) (fun _ _ _ _ _ => (pg_name (i := 3) sclaw_table.nd rfl (Or.inl rfl))) (fun _ _ _ _ _ => pts_nil) (fun _ _ _ _ _ => (pe_callTy call_str_int (by rfl) B.m_str (by decide +kernel) (pa_cons (pe_def D__law_draw (hr.mono (by decide)) gd rfl (pa_cons (pv 0) (pa_cons pe_int pa_nil))) pa_nil))))))))))), ?_⟩
    refine ⟨by show 10 ≤ sizeLine; decide, fun l0 h0 => ⟨by show 1 ≤ sizeLine; decide, fun lk hk => ?_⟩⟩
    refine ⟨_, rfl, Or.inl ⟨rfl, _, SqL.of upd_same⟩, by show 6 ≤ sizeLine; decide, fun l1 h1 => ?_⟩
    have k1 : lk ≠ l1 := ne_of_none upd_same h1
    refine ⟨lk, _, _, rfl, rfl, by rw [upd_ne k1]; exact upd_same, by show 1 < sizeLine; decide, ?_⟩
    have k0 : l0 ≠ lk := ne_of_none upd_same hk
    refine ⟨_, rfl, lk, _, 1, .ref l1, rfl, rfl, SqL.of upd_same, rfl, by show 2 ≤ sizeLine; decide, fun l2 h2 => ?_⟩
    have k2 : lk ≠ l2 := ne_of_none upd_same h2
    have e12 : l1 ≠ l2 := ne_of_none (by rw [upd_ne k1.symm]; exact upd_same) h2
    refine ⟨l1, l2, _, _, rfl, rfl, by rw [upd_ne e12, upd_ne k1.symm]; exact upd_same, upd_same, by show 8 ≤ sizeLine; decide, fun l3 h3 => ?_⟩
    have k3 : lk ≠ l3 := ne_of_none (by rw [upd_ne k2]; exact upd_same) h3
    refine ⟨_, rfl, lk, _, 1, 1, rfl, rfl, by rw [upd_ne k3, upd_ne k2]; exact upd_same, rfl, ?_⟩
    refine gen_app fun H0 eH => ?_
    have e1 := Ex.new (o := .lst (known1.map fun ds => V.str (tab ds))) h0
    have e2 := e1.trans (Ex.new (o := .lst [V.ref l0]) hk)
    have e3 := e2.trans (Ex.new (o := .lst (known2a.map fun ds => V.str (tab ds))) h1)
    have e4 := Ex.mut (o := .lst [V.ref l0, V.ref l1]) e3 (fresh_back e1 hk)
    have e5 := e4.trans (Ex.new (o := .lst (known2b.map fun ds => V.str (tab ds))) h2)
    have e6 := e5.trans (Ex.new (o := .lst ((known2a ++ known2b).map fun ds => V.str (tab ds))) h3)
    have e7 : Ex H H0 := by rw [eH]; exact Ex.mut (o := .lst [V.ref l0, V.ref l3]) e6 (fresh_back e1 hk)
    have q3 : H0 l3 = some (.lst ((known2a ++ known2b).map fun ds => V.str (tab ds))) := by rw [eH, upd_ne k3.symm]; exact upd_same
    have q0 : H0 l0 = some (.lst (known1.map fun ds => V.str (tab ds))) := by
      have a1 : l0 ≠ l1 := ne_of_none (by rw [upd_ne k0]; exact upd_same) h1
      have a2 : l0 ≠ l2 := ne_of_none (by rw [upd_ne k0, upd_ne a1, upd_ne k0]; exact upd_same) h2
      have a3 : l0 ≠ l3 := ne_of_none (by rw [upd_ne a2, upd_ne k0, upd_ne a1, upd_ne k0]; exact upd_same) h3
      rw [eH, upd_ne k0, upd_ne a3, upd_ne a2, upd_ne k0, upd_ne a1, upd_ne k0]
      exact upd_same
    have qk : H0 lk = some (.lst [V.ref l0, V.ref l3]) := by rw [eH]; exact upd_same
    clear eH e1 e2 e3 e4 e5 e6 h3 h2 h1 hk k1 k2 k3 k0 e12
    obtain ⟨sx, sm, sc, hp, sx0, sm0, sm1⟩ := S
    have hp0 := e7 _ _ hp
    have S0 : Spr H0 p := ⟨sx, sm, sc, hp0, sx0, sm0, sm1⟩
    have npk : lk ≠ p := fun z => by rw [z, hp0] at qk; cases qk
    have np0 : l0 ≠ p := fun z => by rw [z, hp0] at q0; cases q0
    have np3 : l3 ≠ p := fun z => by rw [z, hp0] at q3; cases q3
    -- the digits, one by one
    have rest : ∀ H1 : Hp, Spr H1 p → But p H0 H1 → tRet (tM1 (rJoin K) (tC (V.str (Str.ofString ""))) (tLc (iRng1 (tCons (tOp (rIxL K) (tLst (tCons (tC (V.int 3)) (tCons (tC (V.int 9)) (tCons (tC (V.int 27)) tNil))))
        (tOp (rI0 fun i j => V.int (i - j)) (tVar 1) (tC (V.int 1)))) tNil)) (gName 3) tYes
        (tCB (fun xs H Q => ∃ i : Int, xs = [V.int i] ∧ i.natAbs.log2 < 1920 ∧ Q (V.str (toString i)) H) (tCons (tDef spDraw (tCons (tVar 0) (tCons (tC (V.int 3)) tNil))) tNil)) [3]))
        { nx := fun _ H' => Q .non H', rt := Q } [some (.ref p), some (.int (n : Int)), some (.ref lk), none] H1 := fun H1 S1 b1 => by
      have lv : atI [V.int 3, V.int 9, V.int 27] ((n : Int) - 1) = some (.int ((3 ^ n : Nat) : Int)) := by
        have : n = 1 ∨ n = 2 ∨ n = 3 := by omega
        rcases this with rfl | rfl | rfl <;> rfl
      have g0 : (0 : Int) ≤ ((3 ^ n : Nat) : Int) := Int.natCast_nonneg _
      have g1 : ((3 ^ n : Nat) : Int) ≤ 27 := Int.ofNat_le.mpr (Nat.le_trans (Nat.pow_le_pow_right (by decide) n3) (by decide))
      have big : 3 ^ n ≤ 27 := Nat.le_trans (Nat.pow_le_pow_right (by decide) n3) (by decide)
      refine ⟨⟨_, rfl⟩, by show 3 ≤ sizeLine; decide, fun li hli => ⟨_, rfl, _, _, rfl, rfl, li, _, _, _, rfl, rfl, SqL.of upd_same, lv, ((3 ^ n : Nat) : Int), rfl, by omega, by omega, fun D hD => ?_⟩⟩
      have nD : D ≠ p := fun z => by
        obtain ⟨_, _, _, h, _⟩ := S1
        rw [z, upd_ne (ne_of_none h hli), h] at hD
        cases hD
      refine lc_range (lo := 0) (n := 3 ^ n) (fun i H2 => Spr H2 p ∧ But p H1 H2 ∧ ∃ ds : List Nat, ds.length = i ∧ (∀ d ∈ ds, d < 3) ∧ H2 D = some (.lst (signs_ ds))) ?_ ?_ ?_
      · refine ⟨?_, fun b o nb h => ?_, [], rfl, fun d hd => (by cases hd), upd_same⟩
        · obtain ⟨x, m, c, h, r⟩ := S1
          have np : p ≠ li := ne_of_none h hli
          exact ⟨x, m, c, by rw [upd_ne nD.symm, upd_ne np]; exact h, r⟩
        · have nl : b ≠ li := ne_of_none h hli
          rw [upd_ne (ne_of_none (by rw [upd_ne nl]; exact h) hD), upd_ne nl]
          exact h
      · rintro i H2 hi ⟨S2, b2, ds, dl, dd, hD2⟩
        refine ⟨rfl, yes_go ?_⟩
        refine ⟨_, rfl, p, 3, rfl, S2, by decide, by decide, fun d H3 d0 d3 S3 b3 => ?_⟩
        obtain ⟨m, rfl⟩ := Int.eq_ofNat_of_zero_le d0
        have m3 : m < 3 := by omega
        have sh : (m : Int).natAbs.log2 < 1920 := by
          have : m = 0 ∨ m = 1 ∨ m = 2 := by omega
          rcases this with rfl | rfl | rfl <;> decide
        refine ⟨(m : Int), rfl, sh, signs_ ds, b3 _ _ nD hD2, ?_, ?_, fun b o nb h => ?_, ds ++ [m], by simp [dl], fun d hd => ?_, ?_⟩
        · unfold signs_
          rw [List.length_map, List.length_map, dl]
          exact Nat.lt_of_lt_of_le (by omega : i < 28) (by decide)
        · obtain ⟨x, y, c, h, r⟩ := S3
          exact ⟨x, y, c, by rw [upd_ne nD.symm]; exact h, r⟩
        · rw [upd_ne (ne_of_none (by rw [upd_ne (ne_of_none h hli)]; exact h) hD)]
          exact b3 b o nb (b2 b o nb h)
        · rcases List.mem_append.mp hd with h | h
          · exact dd d h
          · obtain rfl := List.mem_singleton.mp h
            exact m3
        · rw [upd_same, ← signs_snoc]
          have := str_digit m m3
          rw [this]
      · rintro H2 ⟨S2, b2, ds, dl, dd, hD2⟩
        have q := k ds H2 ⟨n1, n3, dl, dd⟩ S2 (((But.of e7).trans b1).trans b2)
        rw [← join_tab] at q
        refine ⟨_, D, _, rfl, rfl, Or.inl (SqL.of hD2), ?_, q⟩
        have e : ∀ l : List Nat, ((l.map fun d => (⟨#[48 + d]⟩ : Str)).map (·.length)).sum = l.length := by
          intro l
          induction l with
          | nil => rfl
          | cons d r ih =>
            rw [List.map_cons, List.map_cons, List.sum_cons, ih, List.length_cons]
            show 1 + r.length = _
            omega
        have e0 : (Str.ofString "").length = 0 := rfl
        rw [e, e0, List.length_map]
        omega
    -- if size < 3 and ..
    refine ⟨_, rfl, _, _, rfl, rfl, _, rfl, ?_⟩
    by_cases c3 : (n : Int) < 3
    · rw [decide_eq_true c3]
      refine iteT ⟨_, rfl, p, 2, rfl, S0, by decide, by decide, fun d H1 d0 d2 S1 b1 => ⟨rfl, _, rfl, ?_⟩⟩
      by_cases dz : V.int d = V.int 0
      · rw [decide_eq_true dz]
        have fin : ∀ (l : Addr) (L : List (List Nat)), l ≠ p → H1 l = some (.lst (L.map fun ds => V.str (tab ds))) → L ≠ [] → L.length ≤ 100 → (∀ ds ∈ L, IsTab ds n) → spOf K [.ref p, .ref l] H1 Q E0 := fun l L nl hl ne few ok =>
          ⟨p, l, _, rfl, nl, S1, SqL.of hl, by simpa using ne, by rw [List.length_map]; omega, fun v H2 hv S2 b2 => by
            obtain ⟨ds, hds, rfl⟩ := List.mem_map.mp hv
            exact k ds H2 (ok ds hds) S2 (((But.of e7).trans b1).trans b2)⟩
        have n12 : n = 1 ∨ n = 2 := by omega
        rcases n12 with rfl | rfl
        · refine iteT ⟨_, rfl, _, rfl, _, rfl, _, _, rfl, rfl, lk, _, _, .ref l0, rfl, rfl, SqL.of (b1 _ _ npk qk), rfl, ?_⟩
          exact fin l0 known1 np0 (b1 _ _ np0 q0) (by decide) (by decide) known1_ok
        · refine iteT ⟨_, rfl, _, rfl, _, rfl, _, _, rfl, rfl, lk, _, _, .ref l3, rfl, rfl, SqL.of (b1 _ _ npk qk), rfl, ?_⟩
          exact fin l3 (known2a ++ known2b) np3 (b1 _ _ np3 q3) (by decide) (by decide) known2_ok
      · rw [decide_eq_false dz]
        exact iteF (rest H1 S1 b1)
    · rw [decide_eq_false c3]
      exact iteF (iteF (rest H0 S0 fun _ _ _ h => h))
end
end Tv

namespace Tv
open PySem PySem.Spec PyProof.Rows L2 Evl
/-! ### the two ways to say which places count -/
def startsN (n p : Nat) : List Nat := (List.range (3 ^ n)).filter (fun i => i / stride n p % 3 == 0)
def n3 (x y z : Nat) : Bool := !(x == y && x == z)
theorem picks_ok : ∀ n ≤ 3, ∀ p < n, ∀ a ∈ startsN n p, a + 2 * stride n p < 3 ^ n ∧
    slicePicked (tab (List.replicate (3 ^ n) 0)) (some ((a : Int), 0)) (some ((a : Int) + 3 * (stride n p : Nat), 0)) (some (((stride n p : Nat) : Int), 0)) = [a, a + stride n p, a + 2 * stride n p] := by decide +kernel
theorem two_ways : ∀ n ≤ 3, ∀ p < n,
    (∀ as ∈ tups n, ∃ a ∈ startsN n p, num (as.set p 0) = a ∧ num (as.set p 1) = a + stride n p ∧ num (as.set p 2) = a + 2 * stride n p) ∧
    (∀ a ∈ startsN n p, ∃ as ∈ tups n, num (as.set p 0) = a ∧ num (as.set p 1) = a + stride n p ∧ num (as.set p 2) = a + 2 * stride n p) := by decide +kernel
theorem dist3 : ∀ x < 3, ∀ y < 3, ∀ z < 3, decide (1 < ((dist (seen ⟨#[48 + x, 48 + y, 48 + z]⟩ 3)).length : Int)) = n3 x y z := by decide +kernel
theorem picked_len (x y : Str) (h : x.length = y.length) (l u st : Option (Int × Tok)) : slicePicked x l u st = slicePicked y l u st := by
  unfold slicePicked
  rw [h]
theorem getD_at {ds : List Nat} {i : Nat} (h : i < ds.length) : ds[i]? = some (ds.getD i 0) := by
  rw [List.getD_eq_getElem?_getD, List.getElem?_eq_getElem h]
  rfl
theorem cut3_is {ds : List Nat} {n p a : Nat} (T : IsTab ds n) (hp : p < n) (ha : a ∈ startsN n p) :
    cut3 ds a (stride n p : Nat) = ⟨#[48 + ds.getD a 0, 48 + ds.getD (a + stride n p) 0, 48 + ds.getD (a + 2 * stride n p) 0]⟩ := by
  obtain ⟨lt, e⟩ := picks_ok n T.n3 p hp a ha
  have sp := stride_pos hp
  have e2 : slicePicked (tab ds) (some ((a : Int), 0)) (some ((a : Int) + 3 * (stride n p : Nat), 0)) (some (((stride n p : Nat) : Int), 0)) = [a, a + stride n p, a + 2 * stride n p] := by
    rw [← e]
    refine picked_len _ _ ?_ _ _ _
    rw [tab_len, tab_len, T.len, List.length_replicate]
  unfold cut3 Txt.sliceBy
  rw [e2]
  have l : ds.length = 3 ^ n := T.len
  have at_ : ∀ i, i < ds.length → (tab ds).cps[i]? = some (48 + ds.getD i 0) := fun i hi => by
    rw [← Array.getElem?_toList, tab_cps, List.getElem?_map, getD_at hi]
    rfl
  have h0 := at_ a (by omega)
  have h1 := at_ (a + stride n p) (by omega)
  have h2 := at_ (a + 2 * stride n p) (by omega)
  split
  · rename_i h
    rw [Bool.and_eq_true] at h
    have h' : 3 = (tab ds).length := of_decide_eq_true h.2
    rw [tab_len] at h'
    have hs : stride n p = 1 := by
      have := of_decide_eq_true h.1
      have e9 : ((stride n p : Nat) : Int) = 1 := this
      omega
    have a0 : a = 0 := by omega
    subst a0
    rw [hs] at h1 h2 ⊢
    have ex : (tab ds).cps.toList = [48 + ds.getD 0 0, 48 + ds.getD (0 + 1) 0, 48 + ds.getD (0 + 2 * 1) 0] := by
      rw [tab_cps]
      match ds, h' with
      | [x, y, z], _ => rfl
    show tab ds = _
    have : tab ds = ⟨(tab ds).cps.toList.toArray⟩ := rfl
    rw [this, ex]
  · congr 1
    rw [List.filterMap_cons_some h0, List.filterMap_cons_some h1, List.filterMap_cons_some h2]
    rfl
theorem dig_getD {ds : List Nat} {n : Nat} (T : IsTab ds n) (i : Nat) : ds.getD i 0 < 3 := by
  rw [List.getD_eq_getElem?_getD]
  cases h : ds[i]? with
  | none => decide
  | some d => exact T.dig d (List.mem_of_getElem? h)
theorem differs_is {ds : List Nat} {n p a : Nat} (T : IsTab ds n) (hp : p < n) (ha : a ∈ startsN n p) :
    differs ds (stride n p) (.int (a : Int)) = n3 (ds.getD a 0) (ds.getD (a + stride n p) 0) (ds.getD (a + 2 * stride n p) 0) := by
  show decide (1 < ((dist (seen (cut3 ds a (stride n p : Nat)) (cut3 ds a (stride n p : Nat)).cps.size)).length : Int)) = _
  rw [cut3_is T hp ha]
  exact dist3 _ (dig_getD T _) _ (dig_getD T _) _ (dig_getD T _)
theorem parts_is (ds as : List Nat) (k : Nat) : parts ds as k = n3 (val ds (as.set k 0)) (val ds (as.set k 1)) (val ds (as.set k 2)) := by
  unfold parts n3
  generalize val ds (as.set k 0) = x
  generalize val ds (as.set k 1) = y
  generalize val ds (as.set k 2) = z
  show (!(((x : Nat) : Int) == ((x : Nat) : Int) && (((y : Nat) : Int) == ((x : Nat) : Int) && (((z : Nat) : Int) == ((x : Nat) : Int) && true)))) = _
  have eb : ∀ a b : Nat, (((a : Nat) : Int) == ((b : Nat) : Int)) = (b == a) := fun a b => by
    rw [Bool.eq_iff_iff, beq_iff_eq, beq_iff_eq]
    omega
  rw [eb, eb, eb, beq_self_eq_true, Bool.true_and, Bool.and_true]
theorem starts_mem {n p : Nat} {x : V} : x ∈ startsV n p ↔ ∃ a : Nat, a ∈ startsN n p ∧ x = .int (a : Int) := by
  have key : ∀ i : Nat, isStart (stride n p) i = true ↔ (i / stride n p % 3 == 0) = true := fun i => by
    have e : ((i : Int) / ((stride n p : Nat) : Int) % 3) = ((i / stride n p % 3 : Nat) : Int) := by omega
    unfold isStart
    rw [e, decide_eq_true_iff, beq_iff_eq]
    constructor
    · intro h
      have := V.int.inj h
      omega
    · intro h
      rw [h]
      rfl
  constructor
  · intro h
    obtain ⟨i, hi, hf, rfl⟩ := given_mem h
    exact ⟨i, List.mem_filter.mpr ⟨List.mem_range.mpr hi, (key i).mp hf⟩, rfl⟩
  · rintro ⟨a, ha, rfl⟩
    obtain ⟨h1, h2⟩ := List.mem_filter.mp ha
    unfold startsV given
    exact List.mem_map.mpr ⟨a, List.mem_filter.mpr ⟨h1, (key a).mpr h2⟩, rfl⟩
theorem counts_law {ds : List Nat} {n p : Nat} (T : IsTab ds n) (hp : p < n) : countsB ds n p = lawB ds n p := by
  obtain ⟨w1, w2⟩ := two_ways n T.n3 p hp
  unfold countsB lawB
  rw [Bool.eq_iff_iff, List.any_eq_true, List.any_eq_true]
  constructor
  · rintro ⟨x, hx, hd⟩
    obtain ⟨a, ha, rfl⟩ := starts_mem.mp hx
    obtain ⟨as, has, e0, e1, e2⟩ := w2 a ha
    refine ⟨as, has, ?_⟩
    rw [differs_is T hp ha] at hd
    rw [parts_is]
    unfold val
    rw [e0, e1, e2]
    exact hd
  · rintro ⟨as, has, hd⟩
    obtain ⟨a, ha, e0, e1, e2⟩ := w1 as has
    refine ⟨.int (a : Int), starts_mem.mpr ⟨a, ha, rfl⟩, ?_⟩
    rw [differs_is T hp ha]
    rw [parts_is] at hd
    unfold val at hd
    rw [e0, e1, e2] at hd
    exact hd
theorem given_eq {n : Nat} {f g : Nat → Bool} {v : Nat → V} (h : ∀ i, i < n → f i = g i) : given n f v = given n g v := by
  unfold given
  congr 1
  exact List.filter_congr fun i hi => h i (List.mem_range.mp hi)
theorem counting_law {ds : List Nat} {n : Nat} (T : IsTab ds n) : given n (countsB ds n) (fun i => V.int (i : Int)) = given n (lawB ds n) (fun i => V.int (i : Int)) :=
  given_eq fun i hi => counts_law T hi

/-! ### how often each sign stands -/
theorem tally_is (ds : List Nat) (c : Nat) : 0 ≤ Txt.count (tab ds) ⟨#[48 + c]⟩ ∧ Txt.count (tab ds) ⟨#[48 + c]⟩ ≤ ds.length ∧
    (Txt.count (tab ds) ⟨#[48 + c]⟩ = 0 ↔ ¬ 48 + c ∈ (tab ds).cps.toList) := by
  rw [count_cnt, tab_cps]
  induction ds with
  | nil => exact ⟨Int.le_refl _, Int.le_refl _, by simp [cnt_nil]⟩
  | cons d r ih =>
    obtain ⟨h0, h1, h2⟩ := ih
    rw [List.map_cons, cnt_cons, List.length_cons]
    by_cases e : 48 + d = 48 + c
    · rw [if_pos e]
      refine ⟨by omega, by omega, ?_⟩
      constructor
      · intro h; omega
      · intro h; exact absurd (by rw [e]; exact List.mem_cons_self) h
    · rw [if_neg e, Int.zero_add]
      refine ⟨h0, by omega, ?_⟩
      rw [h2]
      constructor
      · intro h hm
        rcases List.mem_cons.mp hm with z | z
        · exact e z.symm
        · exact h z
      · intro h hm
        exact h (List.mem_cons_of_mem _ hm)
def tallyV (ds : List Nat) : List Int := [Txt.count (tab ds) ⟨#[48]⟩, Txt.count (tab ds) ⟨#[49]⟩, Txt.count (tab ds) ⟨#[50]⟩]
theorem onto_law (ds : List Nat) : ontoB ds = !inV (.int 0) ((tallyV ds).map V.int) := by
  have t0 := (tally_is ds 0).2.2
  have t1 := (tally_is ds 1).2.2
  have t2 := (tally_is ds 2).2.2
  have e : ontoB ds = (decide (48 + 0 ∈ (tab ds).cps.toList) && (decide (48 + 1 ∈ (tab ds).cps.toList) && (decide (48 + 2 ∈ (tab ds).cps.toList) && true))) := rfl
  have e2 : inV (.int 0) ((tallyV ds).map V.int) = ((Txt.count (tab ds) ⟨#[48 + 0]⟩ == 0) || ((Txt.count (tab ds) ⟨#[48 + 1]⟩ == 0) || ((Txt.count (tab ds) ⟨#[48 + 2]⟩ == 0) || false))) := rfl
  rw [e, e2]
  have k : ∀ c, (Txt.count (tab ds) ⟨#[48 + c]⟩ == 0) = !decide (48 + c ∈ (tab ds).cps.toList) := fun c => by
    have := (tally_is ds c).2.2
    by_cases h : 48 + c ∈ (tab ds).cps.toList
    · rw [decide_eq_true h]
      exact beq_eq_false_iff_ne.mpr fun z => this.mp z h
    · rw [decide_eq_false h, this.mpr h]
      rfl
  rw [k 0, k 1, k 2]
  simp
end Tv

namespace Tv
open PySem PySem.Spec PyProof.Rows L2 Evl
section
variable {P : Program} {w : World} {K : PySem.W.Frag} {mg : Str → Option Value} {base : Heap} {f aL : Addr} {fd : FuncData}
theorem spr_ex {H H' : Hp} {p : Addr} (e : Ex H H') (S : Spr H p) : Spr H' p := by
  obtain ⟨x, m, c, h, r⟩ := S
  exact ⟨x, m, c, e _ _ h, r⟩
section
variable {σ : L2.St} {H : Hp} {ta tb te : TE}
theorem evr_ref {p : Addr} {d : PyData} (h : Ev te σ H (.ref p)) (hd : Dp K H (.ref p) d) : EvR K te σ H d :=
  fun H1 e Q q => h H1 e _ fun H2 e2 => q p H2 e2 (dp_mono (e.trans e2) hd)
theorem ev_digit {d : Nat} (h : Ev te σ H (.str ⟨#[48 + d]⟩)) (d3 : d < 3) :
    Ev (tCB (fun xs H Q => ∃ a n, xs = [.str a] ∧ PySem.intText? a = some n ∧ a.length ≤ 640 ∧ Q (.int n) H) (tCons te tNil)) σ H (.int (d : Int)) :=
  fun H1 e Q q => h H1 e _ fun H2 e2 => ⟨⟨#[48 + d]⟩, (d : Int), rfl, int_digit d d3, (by show 1 ≤ 640; decide), q H2 e2⟩
theorem ev_lenSeq {p : Addr} {xs : List V} (h : Ev te σ H (.ref p)) (hx : H p = some (.lst xs)) :
    Ev (tCB (fun xs H Q => ∃ x n, xs = [x] ∧ LenV K x H n ∧ Q (.int (n : Nat)) H) (tCons te tNil)) σ H (.int (xs.length : Nat)) :=
  fun H1 e Q q => h H1 e _ fun H2 e2 => ⟨.ref p, xs.length, rfl, Or.inl ⟨xs, sq_of (e2 _ _ (e _ _ hx)), rfl⟩, q H2 e2⟩
theorem eu_tupleL {p : Addr} {xs : List V} (h : Ev te σ H (.ref p)) (hx : H p = some (.lst xs)) :
    EvU (tCB (fun xs H Q => ∃ p ys, xs = [.ref p] ∧ ((SqL K H p ys ∧ ∀ l, H l = none → Q (.ref l) (upd H l (.tup ys))) ∨ (SqT K H p ys ∧ Q (.ref p) H))) (tCons te tNil)) σ H xs :=
  fun H1 e Q q => h H1 e _ fun H2 e2 => ⟨p, xs, rfl, Or.inl ⟨sq_of (e2 _ _ (e _ _ hx)), fun l hl => q l _ (fresh_back e2 hl) (e2.trans (Ex.new hl)) upd_same⟩⟩
end
theorem sm_nat {n : Nat} (h : n ≤ 28) : Sm (.int (n : Int)) := ⟨by omega, by omega⟩
theorem sh_pair {d : PyData} (h : Sh d) : Fine (.list [d, d]) := fine_list (by show 2 ≤ 3; decide) fun e he => by
  rcases List.mem_cons.mp he with rfl | he
  · exact h
  · rcases List.mem_cons.mp he with rfl | he
    · exact h
    · cases he
/-- the numbers that a test lets through -/
def giv (n : Nat) (f : Nat → Bool) : List Int := ((List.range n).filter f).map fun (i : Nat) => (i : Int)
theorem given_giv (n : Nat) (f : Nat → Bool) : given n f (fun i => V.int (i : Int)) = (giv n f).map V.int := by
  unfold given giv
  rw [List.map_map]
  rfl
theorem sh_giv {n : Nat} (f : Nat → Bool) (h : n ≤ 3) : Sh (.tuple (dInts (giv n f))) := by
  refine Or.inr ⟨_, rfl, ?_, fun e he => ?_⟩
  · have := given_len n f (fun i => V.int (i : Int))
    rw [given_giv, List.length_map] at this
    unfold dInts
    rw [List.length_map]
    omega
  · unfold dInts giv at he
    obtain ⟨i, hi, rfl⟩ := List.mem_map.mp he
    obtain ⟨j, hj, rfl⟩ := List.mem_map.mp hi
    have := List.mem_range.mp (List.mem_filter.mp hj).1
    exact sm_nat (by omega)
theorem sh_tally {ds : List Nat} {n : Nat} (T : IsTab ds n) : Sh (.tuple (dInts (tallyV ds))) := by
  refine Or.inr ⟨_, rfl, by show 3 ≤ 3; decide, fun e he => ?_⟩
  have z := T.small
  have k : ∀ c, Sm (.int (Txt.count (tab ds) ⟨#[48 + c]⟩)) := fun c => by
    have := tally_is ds c
    exact ⟨this.1, by omega⟩
  have he' : e ∈ [PyData.int (Txt.count (tab ds) ⟨#[48 + 0]⟩), .int (Txt.count (tab ds) ⟨#[48 + 1]⟩), .int (Txt.count (tab ds) ⟨#[48 + 2]⟩)] := he
  rcases List.mem_cons.mp he' with rfl | he'
  · exact k 0
  rcases List.mem_cons.mp he' with rfl | he'
  · exact k 1
  rcases List.mem_cons.mp he' with rfl | he'
  · exact k 2
  · cases he'
abbrev slaw_right : Stmt := top 33
abbrev Nlaw_right : List Str := ["spring", "turn_k", "size", "sheet_now", "some", "k", "answers", "due", "sign"]
theorem sclaw_right : FnScope Nlaw_right ["spring"] (defScope slaw_right) := ⟨rfl, rfl, rfl, by decide +kernel, rfl, by decide +kernel, by decide +kernel⟩
def spRight : Sp := fun vs H Q _ => ∃ p, vs = [.ref p] ∧ Spr H p ∧ ∀ H', But p H H' → Q (.bl true) H'
theorem ok_right (F : Fun K "_law_right" "_law_right" slaw_right f fd) (B : Blt mg) (D__law_of : DefG P w K mg base "_law_of" ["spring", "menu"] 2 (spOf K))
    (D__law_table : DefG P w K mg base "_law_table" ["spring", "size"] 3 spTable) (D__law_tuples : DefG P w K mg base "_law_tuples" ["size"] 1 spAllArgs)
    (D__law_at : DefG P w K mg base "_law_at" ["sheet_now", "some"] 1 spValue) (D__law_counting : DefG P w K mg base "_law_counting" ["sheet_now"] 2 spLCounting)
    (D_value : DefG P w K mg base "value" ["table", "arguments"] 5 spValue) (D_places : DefG P w K mg base "places" ["table"] 3 spPlaces)
    (D_counting : DefG P w K mg base "counting" ["table"] 4 spCounting) (D_digits_of : DefG P w K mg base "digits_of" ["table"] 3 spDigits)
    (D_is_onto : DefG P w K mg base "is_onto" ["table"] 3 spOnto) (D_fixed : DefG P w K mg base "fixed" ["table"] 6 spFixed) :
    FnG P w K mg base 7 f fd ["spring"] spRight := by
  refine fnG F sclaw_right (fun vs H Q E h => ?_) (fun cdv A fr s H vs Q E hr gd h => ?_)
  · obtain ⟨p, rfl, _⟩ := h
    rfl
  · obtain ⟨p, rfl, S, k⟩ := h
    refine ⟨_, (pss_cons (ps_for PassesOwn.never rfl (pi_range1 rfl B.m_range (pa_cons pe_int pa_nil)) (pg_name (i := 1) sclaw_right.nd rfl (Or.inl rfl)) (pss_cons (ps_set (i := 2) sclaw_right.nd rfl (Or.inr rfl) (pe_def D__law_of (hr.mono (by decide)) gd rfl (pa_cons (pv 0) (pa_cons (pe_lst (pa_cons pe_int (pa_cons pe_int (pa_cons pe_int (pa_cons pe_int pa_nil))))) pa_nil))))
  (pss_cons (ps_set (i := 3) sclaw_right.nd rfl (Or.inr rfl) (pe_def D__law_table (hr.mono (by decide)) gd rfl (pa_cons (pv 0) (pa_cons (pv 2) pa_nil))))
  (pss_cons (ps_set (i := 4) sclaw_right.nd rfl (Or.inl rfl) (pe_def D__law_tuples (hr.mono (by decide)) gd rfl (pa_cons (pv 2) pa_nil)))
  (pss_cons (ps_for PassesOwn.never rfl (pi_range1 rfl B.m_range (pa_cons (pe_callB call_len (by rfl) B.m_len (by decide +kernel) (pa_cons (pv 4) pa_nil)) pa_nil)) (pg_name (i := 5) sclaw_right.nd rfl (Or.inl rfl)) (pss_cons (ps_set (i := 6) sclaw_right.nd rfl (Or.inl rfl) (pe_lst (pa_cons (pe_def D_value (hr.mono (by decide)) gd rfl (pa_cons (pv 3) (pa_cons (pe_ix ix_list (pv 4) (pv 5) (fun _ _ => rfl)) pa_nil))) (pa_cons (pe_defK D_value (hr.mono (by decide)) gd rfl (pk_cons (pe_ix ix_list (pv 4) (pv 5) (fun _ _ => rfl)) (pk_cons (pv 3) pk_nil))) pa_nil))))
  (pss_one (ps_if (pt_cmpR op_ne (pe_callB (cr_repr hr gd) (by rfl) B.m_repr (by decide +kernel) (pa_cons (pv 6) pa_nil)) (pe_callB (cr_repr hr gd) (by rfl) B.m_repr (by decide +kernel) (pa_cons (pe_op op_rep (pe_lst (pa_cons (pe_callTy call_int_str (by rfl) B.m_int (by decide +kernel) (pa_cons (pe_ix ix_str (pv 3) (pv 5) (fun _ _ => rfl)) pa_nil)) pa_nil)) pe_int) pa_nil)) (nomark _)) (pss_one (ps_ret pe_bl)) pss_nil))))
  (pss_cons (ps_if (pt_cmpR op_ne (pe_callB (cr_repr hr gd) (by rfl) B.m_repr (by decide +kernel) (pa_cons (pe_lst (pa_cons (pe_def D_places (hr.mono (by decide)) gd rfl (pa_cons (pv 3) pa_nil)) (pa_cons (pe_defK D_places (hr.mono (by decide)) gd rfl (pk_cons (pv 3) pk_nil)) pa_nil))) pa_nil)) (pe_callB (cr_repr hr gd) (by rfl) B.m_repr (by decide +kernel) (pa_cons (pe_lst (pa_cons (pv 2) (pa_cons (pv 2) pa_nil))) pa_nil)) (nomark _)) (pss_one (ps_ret pe_bl)) pss_nil)
  (pss_cons (ps_set (i := 7) sclaw_right.nd rfl (Or.inl rfl) (pe_callTy call_tuple_of (by rfl) B.m_tuple (by decide +kernel) (pa_cons (pe_def D__law_counting (hr.mono (by decide)) gd rfl (pa_cons (pv 3) pa_nil)) pa_nil)))
  (pss_cons (ps_if (pt_cmpR op_ne (pe_callB (cr_repr hr gd) (by rfl) B.m_repr (by decide +kernel) (pa_cons (pe_lst (pa_cons (pe_def D_counting (hr.mono (by decide)) gd rfl (pa_cons (pv 3) pa_nil)) (pa_cons (pe_defK D_counting (hr.mono (by decide)) gd rfl (pk_cons (pv 3) pk_nil)) pa_nil))) pa_nil)) (pe_callB (cr_repr hr gd) (by rfl) B.m_repr (by decide +kernel) (pa_cons (pe_lst (pa_cons (pv 7) (pa_cons (pv 7) pa_nil))) pa_nil)) (nomark _)) (pss_one (ps_ret pe_bl)) pss_nil)
  (pss_cons (ps_setLc (i := 7) (own := [("sign", 8)]) (g := gName 8) rfl sclaw_right.nd rfl rfl (sw_true rfl rfl rfl (by decide +kernel)) (pi_str pe_str) (blkOk_by (own := [("sign", 8)]) (N := Nlaw_right) (sc := defScope slaw_right) (by decide +kernel)) (fun _ _ _ _ _ => (pg_name (i := 8) sclaw_right.nd rfl (Or.inl rfl))) (fun _ _ _ _ _ => pts_nil) (fun _ _ _ _ _ => (show PE _ _ (tBM K _ _ _ _) from (pe_bm PySem.F.plainAttrs_str PySem.F.slot_str_count PySem.F.type_str_count mt_count (pv 3) (pa_cons (pv 8) pa_nil)))))
  (pss_cons (ps_if (pt_cmpR op_ne (pe_callB (cr_repr hr gd) (by rfl) B.m_repr (by decide +kernel) (pa_cons (pe_lst (pa_cons (pe_def D_digits_of (hr.mono (by decide)) gd rfl (pa_cons (pv 3) pa_nil)) (pa_cons (pe_defK D_digits_of (hr.mono (by decide)) gd rfl (pk_cons (pv 3) pk_nil)) pa_nil))) pa_nil)) (pe_callB (cr_repr hr gd) (by rfl) B.m_repr (by decide +kernel) (pa_cons (pe_op op_rep (pe_lst (pa_cons (pe_callTy call_tuple_of (by rfl) B.m_tuple (by decide +kernel) (pa_cons (pv 7) pa_nil)) pa_nil)) pe_int) pa_nil)) (nomark _)) (pss_one (ps_ret pe_bl)) pss_nil)
  (pss_cons (ps_if (pt_cmpR op_ne (pe_callB (cr_repr hr gd) (by rfl) B.m_repr (by decide +kernel) (pa_cons (pe_lst (pa_cons (pe_def D_is_onto (hr.mono (by decide)) gd rfl (pa_cons (pv 3) pa_nil)) (pa_cons (pe_defK D_is_onto (hr.mono (by decide)) gd rfl (pk_cons (pv 3) pk_nil)) pa_nil))) pa_nil)) (pe_callB (cr_repr hr gd) (by rfl) B.m_repr (by decide +kernel) (pa_cons (pe_op op_rep (pe_lst (pa_cons (pe_cmpR op_notIn_seq pe_int (pv 7) (by rfl)) pa_nil)) pe_int) pa_nil)) (nomark _)) (pss_one (ps_ret pe_bl)) pss_nil)
  (pss_cons (ps_set (i := 7) sclaw_right.nd rfl (Or.inl rfl) (pe_callTy call_tuple_of (by rfl) B.m_tuple (by decide +kernel) (pa_cons (pe_lc (own := [("k", 5)]) (g := gName 5) rfl sclaw_right.nd (pi_range1 rfl B.m_range (pa_cons pe_int pa_nil)) (blkOk_by (own := [("k", 5)]) (N := Nlaw_right) (sc := defScope slaw_right) (by decide +kernel)) (fun _ _ _ _ _ => (pg_name (i := 5) sclaw_right.nd rfl (Or.inl rfl))) (fun _ _ _ _ _ => (pts_one (pt_cmpR op_eq (pe_def D__law_at (hr.mono (by decide)) gd rfl (pa_cons (pv 3) (pa_cons (pe_op (show OpR _ _ (rRepK K) from op_repK) (pe_tup (pa_cons (pv 5) pa_nil)) (pv 2)) pa_nil))) (pv 5) (nomark _)))) (fun _ _ _ _ _ => (pv 5))) pa_nil)))
  (pss_one (ps_if (pt_cmpR op_ne (pe_callB (cr_repr hr gd) (by rfl) B.m_repr (by decide +kernel) (pa_cons (pe_lst (pa_cons (pe_def D_fixed (hr.mono (by decide)) gd rfl (pa_cons (pv 3) pa_nil)) (pa_cons (pe_defK D_fixed (hr.mono (by decide)) gd rfl (pk_cons (pv 3) pk_nil)) pa_nil))) pa_nil)) (pe_callB (cr_repr hr gd) (by rfl) B.m_repr (by decide +kernel) (pa_cons (pe_lst (pa_cons (pv 7) (pa_cons (pv 7) pa_nil))) pa_nil)) (nomark _)) (pss_one (ps_ret pe_bl)) pss_nil))))))))))))))
  (pss_one (ps_ret pe_bl))), ?_⟩
    refine q_forR1 (n := 6) (ea_cons ev_c ea_nil) ⟨by decide, by decide⟩ (fun i σ H2 => ∃ v1 v2 v3 v4 v5 v6 v7 v8 : Option V, σ = [some (.ref p), v1, v2, v3, v4, v5, v6, v7, v8] ∧ Spr H2 p ∧ But p H H2)
      (fun H1 e1 => ⟨none, none, none, none, none, none, none, none, rfl, spr_ex e1 S, But.of e1⟩) ?_ ?_
    rotate_left
    · rintro σ H2 ⟨_, _, _, _, _, _, _, _, rfl, _, b⟩
      exact k H2 b
    rintro i σ H0 _ ⟨v1, v2, v3, v4, v5, v6, v7, v8, rfl, S0, b0⟩
    -- size, sheet_now, some
    refine ⟨_, rfl, (by show 4 ≤ sizeLine; decide), fun l hl => ?_⟩
    have pl : l ≠ p := by
      obtain ⟨_, _, _, hp, _⟩ := S0
      exact (ne_of_none hp hl).symm
    refine ⟨p, l, [.int 1, .int 2, .int 2, .int 3], rfl, pl, spr_ex (Ex.new hl) S0, SqL.of upd_same, by simp, by decide, fun v H1 hv S1 b1 => ?_⟩
    obtain ⟨n, rfl, n1, n3⟩ : ∃ n : Nat, v = .int (n : Int) ∧ 1 ≤ n ∧ n ≤ 3 := by
      rcases List.mem_cons.mp hv with rfl | hv
      · exact ⟨1, rfl, by decide, by decide⟩
      rcases List.mem_cons.mp hv with rfl | hv
      · exact ⟨2, rfl, by decide, by decide⟩
      rcases List.mem_cons.mp hv with rfl | hv
      · exact ⟨2, rfl, by decide, by decide⟩
      rcases List.mem_cons.mp hv with rfl | hv
      · exact ⟨3, rfl, by decide, by decide⟩
      · cases hv
    refine ⟨_, rfl, _, rfl, p, n, rfl, S1, n1, n3, fun ds H2 T S2 b2 => ?_⟩
    refine ⟨_, rfl, n, Nat.le_succ_of_le n3, rfl, fun lt H3 xs hlt e3 hx R => ?_⟩
    have S3 := spr_ex e3 S2
    have len : xs.length = 3 ^ n := by rw [R.len, (tups_ok n n3).1]
    have dsl := T.small
    -- the rows
    refine q_forR1 (n := ((xs.length : Nat) : Int)) (ea_cons (ev_lenSeq (ev_var rfl) hx) ea_nil) ⟨by omega, by rw [len, ← T.len]; omega⟩
      (fun j σ H4 => ∃ v5 v6 : Option V, σ = [some (.ref p), some (.int (i : Int)), some (.int (n : Int)), some (.str (tab ds)), some (.ref lt), v5, v6, v7, v8] ∧ Ex H3 H4) (fun H4 e4 => ⟨v5, v6, rfl, e4⟩) ?_ ?_
    · rintro j σ H4 hj ⟨w5, w6, rfl, e4⟩
      have jl : j < xs.length := by omega
      obtain ⟨as, ha, ra, hra, hrow⟩ := R.get (List.getElem?_eq_getElem jl)
      have tk := (tups_ok n n3).2 j (by rw [← R.len]; exact jl)
      have as0 : (tups n).getD j [] = as := by rw [List.getD_eq_getElem?_getD, ha]; rfl
      rw [as0] at tk
      obtain ⟨nj, asl, asd⟩ := tk
      have as3 : ∀ a ∈ as, a < 3 := fun a ha => of_decide_eq_true (List.all_eq_true.mp asd a ha)
      obtain ⟨g1, g2⟩ := T.at asl as3
      have atj : ∀ {H5 : Hp}, Ex H4 H5 → RV (rIxL K) (.ref lt) (.int (j : Int)) H5 (.ref ra) := fun e5 => rv_ixL (sq_of (e5 _ _ (e4 _ _ hx))) (by
        rw [← hra]
        exact atI_nat (List.getElem?_eq_getElem jl))
      refine q_asgL (xs := [.int (val ds as : Nat), .int (val ds as : Nat)]) (el_lst (ea_cons (ev_def (ea_cons (ev_var rfl) (ea_cons (ev_op (ev_var rfl) (ev_var rfl) (atj (Ex.refl _))) ea_nil)) fun H5 e5 Q5 q5 =>
          ⟨ds, n, ra, as, T, rfl, e5 _ _ (e4 _ _ hrow), asl, as3, q5⟩) (ea_cons (ev_defK (ea_cons (ev_op (ev_var rfl) (ev_var rfl) (atj (Ex.refl _))) (ea_cons (ev_var rfl) ea_nil)) fun H5 e5 Q5 q5 =>
          ⟨ds, n, ra, as, T, rfl, e5 _ _ (e4 _ _ hrow), asl, as3, q5⟩) ea_nil)) (by show 2 ≤ 100000; decide)) fun pa H5 hpa e5 h5 => ?_
      refine s_pass (et_shows (d := .list [.int (val ds as : Nat), .int (val ds as : Nat)]) (sh_pair (Or.inl (sm_nat (by omega)))) (evr_ref (ev_var rfl) (.lst (sq_of h5) (.cons (.int _) (.cons (.int _) .nil)))) (evd_rep2 (evd_int (ev_digit (ev_op (ev_var rfl) (ev_var rfl) (rv_ixS (by rw [tab_len]; omega) ?_)) g2)))) fun H6 e6 => ?_
      · rw [tab_cps]
        rw [nj] at g1
        exact atI_nat (by rw [List.getElem?_map, g1]; rfl)
      · exact ⟨_, _, rfl, e4.trans (e5.trans e6)⟩
    rintro σ H4 ⟨w5, w6, rfl, e4⟩
    -- places
    refine q_pass (et_shows (d := .list [.int (n : Int), .int (n : Int)]) (sh_pair (Or.inl (sm_nat (by omega))))
      (evr_lst (evds_cons (evd_int (ev_def (ea_cons (ev_var rfl) ea_nil) fun H5 e5 Q5 q5 => ⟨ds, n, T, rfl, q5⟩)) (evds_cons (evd_int (ev_defK (ea_cons (ev_var rfl) ea_nil) fun H5 e5 Q5 q5 => ⟨ds, n, T, rfl, q5⟩)) evds_nil)) (by show 2 ≤ 1000; decide))
      (evr_lst (evds_cons (evd_int (ev_var rfl)) (evds_cons (evd_int (ev_var rfl)) evds_nil)) (by show 2 ≤ 1000; decide))) fun H5 e5 => ?_
    -- counting
    refine q_asgU (xs := (giv n (lawB ds n)).map V.int) (eu_tupleN (by
      rw [← given_giv]
      exact el_def (ea_cons (ev_var rfl) ea_nil) fun H6 e6 Q6 q6 => ⟨ds, n, T, rfl, q6⟩)) fun pd H6 hpd e6 h6 => ?_
    refine q_pass (et_shows (d := .list [.tuple (dInts (giv n (lawB ds n))), .tuple (dInts (giv n (lawB ds n)))]) (sh_pair (sh_giv _ n3))
      (evr_lst (evds_cons (evd_tup (eu_def (ea_cons (ev_var rfl) ea_nil) fun H7 e7 Q7 q7 => ⟨ds, n, T, rfl, by rw [counting_law T, given_giv]; exact q7⟩))
        (evds_cons (evd_tup (eu_defK (ea_cons (ev_var rfl) ea_nil) fun H7 e7 Q7 q7 => ⟨ds, n, T, rfl, by rw [counting_law T, given_giv]; exact q7⟩)) evds_nil)) (by show 2 ≤ 1000; decide))
      (evr_lst (evds_cons (evd_ref (ev_var rfl) (.tup (st_of h6) (dp_ints _))) (evds_cons (evd_ref (ev_var rfl) (.tup (st_of h6) (dp_ints _))) evds_nil)) (by show 2 ≤ 1000; decide))) fun H7 e7 => ?_
    -- digits
    refine q_asgL (xs := (tallyV ds).map V.int) ?_ fun pt H8 hpt e8 h8 => ?_
    · have eg : (tallyV ds).map V.int = given (Str.ofString "012").cps.size (fun _ => true) (fun i => V.int (Txt.count (tab ds) ⟨#[(Str.ofString "012").cps.getD i 0]⟩)) := rfl
      rw [eg]
      refine el_lcS (x := Str.ofString "012") (fun _ => true) (fun i => V.int (Txt.count (tab ds) ⟨#[(Str.ofString "012").cps.getD i 0]⟩)) ev_c (by decide) (fun x => rfl) (fun i c H8 e hi => et_yes) (fun i c H8 e hi _ => ?_)
      have e2 : (Str.ofString "012").cps.getD i 0 = c := by rw [← Array.getElem?_toList] at hi; simp [Array.getD_eq_getD_getElem?, ← Array.getElem?_toList, hi]
      rw [e2]
      exact ev_count (ev_var rfl) (ev_var rfl)
    refine q_pass (et_shows (d := .list [.tuple (dInts (tallyV ds)), .tuple (dInts (tallyV ds))]) (sh_pair (sh_tally T))
      (evr_lst (evds_cons (evd_tup (eu_def (ea_cons (ev_var rfl) ea_nil) fun H9 e9 Q9 q9 => ⟨ds, n, T, rfl, q9⟩))
        (evds_cons (evd_tup (eu_defK (ea_cons (ev_var rfl) ea_nil) fun H9 e9 Q9 q9 => ⟨ds, n, T, rfl, q9⟩)) evds_nil)) (by show 2 ≤ 1000; decide))
      (evd_rep2 (evd_tup (eu_tupleL (ev_var rfl) h8)))) fun H9 e9 => ?_
    -- onto
    refine q_pass (et_shows (d := .list [.bool (ontoB ds), .bool (ontoB ds)]) (sh_pair (Or.inl trivial))
      (evr_lst (evds_cons (evd_bl (ev_def (ea_cons (ev_var rfl) ea_nil) fun HA eA QA qA => ⟨ds, n, T, rfl, qA⟩)) (evds_cons (evd_bl (ev_defK (ea_cons (ev_var rfl) ea_nil) fun HA eA QA qA => ⟨ds, n, T, rfl, qA⟩)) evds_nil)) (by show 2 ≤ 1000; decide))
      (evd_rep2 (evd_bl (ev_is (ev_op ev_c (ev_var rfl) (rv_niL (sq_of (e9 _ _ h8)) rfl rfl)) (by rw [onto_law]))))) fun HA eA => ?_
    -- fixed
    refine q_asgU (xs := (giv 3 (fun i => decide (V.int (val ds (List.replicate n i) : Nat) = V.int (i : Int)))).map V.int) (eu_tupleN ?_) fun pf HB hpf eB hB => ?_
    · rw [← given_giv]
      refine el_lcR1 (n := 3) (fun i => decide (V.int (val ds (List.replicate n i) : Nat) = V.int (i : Int))) (fun i => V.int (i : Int)) (ea_cons ev_c ea_nil) ⟨by decide, by decide⟩ (fun x => rfl) (fun i HB eB hi => ?_) (fun i HB eB hi _ => ev_var rfl)
      refine et_test (ev_op (ev_def2U (xs := List.replicate n (V.int (i : Int))) (ev_var rfl) (eu_repK (eu_tup (ea_cons (ev_var rfl) ea_nil) (by show 1 ≤ 100000; decide)) (ev_var rfl) n1 (by omega)) fun pq H1 e1 hp Q q =>
        ⟨ds, n, pq, List.replicate n i, T, rfl, ?_, by simp, fun a ha => ?_, q⟩) (ev_var rfl) (rv_eq rfl))
      · rw [hp]; simp [iv]
      · rw [(List.mem_replicate.mp ha).2]; omega
    refine s_pass (et_shows (d := .list [.tuple (dInts (giv 3 (fun i => decide (V.int (val ds (List.replicate n i) : Nat) = V.int (i : Int))))), .tuple (dInts (giv 3 (fun i => decide (V.int (val ds (List.replicate n i) : Nat) = V.int (i : Int)))))]) (sh_pair (sh_giv _ (by decide)))
      (evr_lst (evds_cons (evd_tup (eu_def (ea_cons (ev_var rfl) ea_nil) fun H7 e7 Q7 q7 => ⟨ds, n, T, rfl, by unfold fixedV; rw [given_giv]; exact q7⟩))
        (evds_cons (evd_tup (eu_defK (ea_cons (ev_var rfl) ea_nil) fun H7 e7 Q7 q7 => ⟨ds, n, T, rfl, by unfold fixedV; rw [given_giv]; exact q7⟩)) evds_nil)) (by show 2 ≤ 1000; decide))
      (evr_lst (evds_cons (evd_ref (ev_var rfl) (.tup (st_of hB) (dp_ints _))) (evds_cons (evd_ref (ev_var rfl) (.tup (st_of hB) (dp_ints _))) evds_nil)) (by show 2 ≤ 1000; decide))) fun HC eC => ?_
    have e34 := (((((((e4.trans e5).trans e6).trans e7).trans e8).trans e9).trans eA).trans eB).trans eC
    exact ⟨_, _, _, _, _, _, _, _, rfl, spr_ex e34 S3, (((b0.trans (But.of (Ex.new hl))).trans b1).trans b2).trans (But.of (e3.trans e34))⟩
end
end Tv

namespace Tv
open PySem PySem.Spec PyProof.Rows L2 Evl
section
variable {P : Program} {w : World} {K : PySem.W.Frag} {mg : Str → Option Value} {base : Heap} {f aL : Addr} {fd : FuncData}
section
variable {σ : L2.St} {H : Hp} {ta tb te : TE}
theorem evd_r {d : PyData} (h : EvR K te σ H d) : EvD K te σ H d := fun H1 e Q q => h H1 e Q fun p H2 e2 hd => q (.ref p) H2 e2 hd
theorem evd_tupD {xs : List V} {ds : List PyData} (h : EvU te σ H xs) (hd : ∀ H1, DpAll K H1 xs ds) : EvD K te σ H (.tuple ds) :=
  fun H1 e Q q => h H1 e _ fun p H2 _ e2 hp => q _ H2 e2 (.tup (st_of hp) (hd H2))
theorem dp_strs {H : Hp} : ∀ ys : List Str, DpAll K H (ys.map V.str) (ys.map PyData.str)
  | [] => .nil
  | a :: r => .cons (.str a) (dp_strs r)
theorem ev_sameD {d : PyData} (h1 : EvD K ta σ H d) (h2 : EvD K tb σ H d) (s : SeqAt.shaped d = true) (q0 : PyData.eqv d d = true) : Ev (tOp (rNeD K) ta tb) σ H (.bl false) :=
  fun H1 e Q q => h1 H1 e _ fun v H2 e2 dv => h2 H2 (e.trans e2) _ fun u H3 e3 du => ⟨d, d, dp_mono e3 dv, du, s, s, by rw [q0]; exact q H3 (e2.trans e3)⟩
theorem q_asgR {d : PyData} {D : Ends} {tz : TS} {i : Nat} (h : EvR K te σ H d) (k : ∀ p H1, Ex H H1 → Dp K H1 (.ref p) d → tz D (σ.set i (some (.ref p))) H1) : tSeq (tAsg te (gName i)) tz D σ H :=
  h H (Ex.refl H) _ fun p H1 e hd => k p H1 e hd
theorem ev_lenSq {p : Addr} {xs : List V} (h : Ev te σ H (.ref p)) (hx : SqL K H p xs) :
    Ev (tCB (fun xs H Q => ∃ x n, xs = [x] ∧ LenV K x H n ∧ Q (.int (n : Nat)) H) (tCons te tNil)) σ H (.int (xs.length : Nat)) :=
  fun H1 e Q q => h H1 e _ fun H2 e2 => ⟨.ref p, xs.length, rfl, Or.inl ⟨xs, ex_l (e.trans e2) hx, rfl⟩, q H2 e2⟩
theorem ev_least {i j : Int} (ha : Ev ta σ H (.int i)) (hb : Ev tb σ H (.int j)) :
    Ev (tCB (fun xs H Q => ∃ i j, xs = [.int i, .int j] ∧ Q (.int (if j < i then j else i)) H) (tCons ta (tCons tb tNil))) σ H (.int (if j < i then j else i)) := fun H1 e Q q =>
  ha H1 e _ fun H2 e2 => hb H2 (e.trans e2) _ fun H3 e3 => ⟨i, j, rfl, q H3 (e2.trans e3)⟩
theorem ev_most {i j : Int} (ha : Ev ta σ H (.int i)) (hb : Ev tb σ H (.int j)) :
    Ev (tCB (fun xs H Q => ∃ i j, xs = [.int i, .int j] ∧ Q (.int (if j > i then j else i)) H) (tCons ta (tCons tb tNil))) σ H (.int (if j > i then j else i)) := fun H1 e Q q =>
  ha H1 e _ fun H2 e2 => hb H2 (e.trans e2) _ fun H3 e3 => ⟨i, j, rfl, q H3 (e2.trans e3)⟩
theorem ev_glue {x y : Str} (ha : Ev ta σ H (.str x)) (hb : Ev tb σ H (.str y)) (z : x.length + y.length ≤ 1000) :
    Ev (tOp (fun x y H Q => ∃ i j, x = .str i ∧ y = .str j ∧ i.length + j.length ≤ sizeLine ∧ Q (.str (i ++ j)) H) ta tb) σ H (.str (x ++ y)) := fun H1 e Q q =>
  ha H1 e _ fun H2 e2 => hb H2 (e.trans e2) _ fun H3 e3 => ⟨x, y, rfl, rfl, Nat.le_trans z (by decide), q H3 (e2.trans e3)⟩
end
def spScript (K : PySem.W.Frag) : Sp := fun vs H Q _ => ∃ (a : Addr) (ns : List Int), vs = [.ref a] ∧ SqL K H a (ns.map V.int) ∧ ns.length ≤ 63 ∧ ∀ H', Q (.bl true) H'
def tA : List Nat := [0,1,2,1,1,2,2,2,2]
def tB : List Nat := [0,0,0,1,1,1,2,2,2]
def tC' : List Nat := [2,1,0]
def tD : List Nat := [0,0,0,0,1,1,0,1,2]
def tE : List Nat := [0,0,0,0,0,0,0,0,1]
theorem tabs_ok : IsTab tA 2 ∧ IsTab tB 2 ∧ IsTab tC' 1 ∧ IsTab tD 2 ∧ IsTab tE 2 :=
  ⟨⟨by decide, by decide, by decide, by decide⟩, ⟨by decide, by decide, by decide, by decide⟩, ⟨by decide, by decide, by decide, by decide⟩, ⟨by decide, by decide, by decide, by decide⟩, ⟨by decide, by decide, by decide, by decide⟩⟩
theorem seen_vals : given 2 (countsB tB 2) (fun i => V.int (i : Int)) = [V.int 0] ∧ fixedV tA 2 = [V.int 0, V.int 1, V.int 2] ∧ fixedV tC' 1 = [V.int 1] ∧ tallyV tD = [5, 3, 1] ∧ ontoB tE = false := by
  refine ⟨?_, ?_, ?_, ?_, ?_⟩ <;> decide +kernel
abbrev slaw : Stmt := top 34
abbrev Nlaw : List Str := ["script", "due", "answers", "a", "b", "c", "k"]
theorem sclaw : FnScope Nlaw ["script"] (defScope slaw) := ⟨rfl, rfl, rfl, by decide +kernel, rfl, by decide +kernel, by decide +kernel⟩
theorem ok_law (F : Fun K "law" "law" slaw f fd) (B : Blt mg) (D__law_tuples : DefG P w K mg base "_law_tuples" ["size"] 1 spAllArgs)
    (D_all_tables : DefG P w K mg base "all_tables" [] 3 spAllTables) (D_value : DefG P w K mg base "value" ["table", "arguments"] 5 spValue)
    (D_counting : DefG P w K mg base "counting" ["table"] 4 spCounting) (D_fixed : DefG P w K mg base "fixed" ["table"] 6 spFixed) (D_digits_of : DefG P w K mg base "digits_of" ["table"] 3 spDigits)
    (D_is_onto : DefG P w K mg base "is_onto" ["table"] 3 spOnto) (D__law_spring : DefG P w K mg base "_law_spring" ["cells", "k"] 1 (spSpring K))
    (D__law_right : DefG P w K mg base "_law_right" ["spring"] 7 spRight) : FnG P w K mg base 8 f fd ["script"] (spScript K) := by
  refine fnG F sclaw (fun vs H Q E h => ?_) (fun cdv A fr s H vs Q E hr gd h => ?_)
  · obtain ⟨a, ns, rfl, _⟩ := h
    rfl
  · obtain ⟨a, ns, rfl, hS, many, k⟩ := h
    refine ⟨_, (pss_cons (ps_set (i := 1) sclaw.nd rfl (Or.inl rfl) (pe_callTy call_tuple_of (by rfl) B.m_tuple (by decide +kernel) (pa_cons (pe_lc (own := [("a", 3), ("b", 4), ("c", 5)]) (g := gTup K 3 (gCons (gName 3) (gCons (gName 4) (gCons (gName 5) gNil)))) rfl sclaw.nd (pi_list (pe_def D__law_tuples (hr.mono (by decide)) gd rfl (pa_cons pe_int pa_nil))) (blkOk_by (own := [("a", 3), ("b", 4), ("c", 5)]) (N := Nlaw) (sc := defScope slaw) (by decide +kernel)) (fun _ _ _ _ _ => (pg_tup rfl (pgs_cons (pg_name (i := 3) sclaw.nd rfl (Or.inl rfl)) (pgs_cons (pg_name (i := 4) sclaw.nd rfl (Or.inl rfl)) (pgs_cons (pg_name (i := 5) sclaw.nd rfl (Or.inl rfl)) pgs_nil))))) (fun _ _ _ _ _ => pts_nil) (fun _ _ _ _ _ => (pe_op op_add_str (pe_op op_add_str (pe_callTy call_str_int (by rfl) B.m_str (by decide +kernel) (pa_cons (pv 3) pa_nil)) (pe_callTy call_str_int (by rfl) B.m_str (by decide +kernel) (pa_cons (pv 4) pa_nil))) (pe_callTy call_str_int (by rfl) B.m_str (by decide +kernel) (pa_cons (pv 5) pa_nil))))) pa_nil)))
  (pss_cons (ps_if (PW.pt (pw_or (pt_cmpR (op_neD (hr.units)) (pe_def0 D_all_tables (hr.mono (by decide)) gd rfl) (pv 1) (nomark _)) (pw_or (pt_cmpR op_ne (pe_def D_value (hr.mono (by decide)) gd rfl (pa_cons pe_str (pa_cons (pe_tup (pa_cons pe_int (pa_cons pe_int pa_nil))) pa_nil))) pe_int (nomark _)) (pw_or1 (pt_cmpR (op_neD (hr.units)) (pe_def D_counting (hr.mono (by decide)) gd rfl (pa_cons pe_str pa_nil)) (pe_tup (pa_cons pe_int pa_nil)) (nomark _)))))) (pss_one (ps_ret pe_bl)) pss_nil)
  (pss_cons (ps_set (i := 2) sclaw.nd rfl (Or.inl rfl) (pe_lst (pa_cons (pe_def D_fixed (hr.mono (by decide)) gd rfl (pa_cons pe_str pa_nil)) (pa_cons (pe_def D_fixed (hr.mono (by decide)) gd rfl (pa_cons pe_str pa_nil)) (pa_cons (pe_def D_digits_of (hr.mono (by decide)) gd rfl (pa_cons pe_str pa_nil)) (pa_cons (pe_def D_is_onto (hr.mono (by decide)) gd rfl (pa_cons pe_str pa_nil)) pa_nil))))))
  (pss_cons (ps_if (pt_cmpR (op_neD (hr.units)) (pv 2) (pe_lst (pa_cons (pe_tup (pa_cons pe_int (pa_cons pe_int (pa_cons pe_int pa_nil)))) (pa_cons (pe_tup (pa_cons pe_int pa_nil)) (pa_cons (pe_tup (pa_cons pe_int (pa_cons pe_int (pa_cons pe_int pa_nil)))) (pa_cons pe_bl pa_nil))))) (nomark _)) (pss_one (ps_ret pe_bl)) pss_nil)
  (pss_one (ps_ret (pe_callB (cr_all rfl) (by rfl) B.m_all (by decide +kernel) (pa_cons (pe_lc (own := [("k", 6)]) (g := gName 6) rfl sclaw.nd (pi_range1 rfl B.m_range (pa_cons (pe_callB (call_max2 rfl) (by rfl) B.m_max (by decide +kernel) (pa_cons pe_int (pa_cons (pe_callB (call_min2 rfl) (by rfl) B.m_min (by decide +kernel) (pa_cons (pe_callB call_len (by rfl) B.m_len (by decide +kernel) (pa_cons (pv 0) pa_nil)) (pa_cons pe_int pa_nil))) pa_nil))) pa_nil)) (blkOk_by (own := [("k", 6)]) (N := Nlaw) (sc := defScope slaw) (by decide +kernel)) (fun _ _ _ _ _ => (pg_name (i := 6) sclaw.nd rfl (Or.inl rfl))) (fun _ _ _ _ _ => pts_nil) (fun _ _ _ _ _ => (pe_def D__law_right (hr.mono (by decide)) gd rfl (pa_cons (pe_def D__law_spring (hr.mono (by decide)) gd rfl (pa_cons (pv 0) (pa_cons (pv 6) pa_nil))) pa_nil)))) pa_nil)))))))), ?_⟩
    obtain ⟨okA, okB, okC, okD, okE⟩ := tabs_ok
    obtain ⟨vB, vA, vC, vD, vE⟩ := seen_vals
    -- due
    refine q_asgU (xs := (tups 3).map fun r => V.str (tab r)) (eu_tupleN fun H1 e Q1 q => ?_) fun pd H2 hpd e2 h2 => ?_
    · refine ⟨3, by decide, rfl, fun p H2 xs hp e2 hx R => ⟨p, rfl, ⟨xs, SqL.of hx⟩, fun D hD => lc_list (K := K) (xs := xs)
        (Cw H2 (fun _ => true) (fun i => .str (tab ((tups 3).getD i []))) D) ⟨hD, Ex.new hD, upd_same⟩ (fun i H' _ pc => sq_of (pc.2.1 _ _ hx)) (fun i x H' hi pc => ?_) (fun H' pc => ?_)⟩⟩
      · obtain ⟨r, hr', ra, rfl, hra⟩ := R.get hi
        obtain ⟨lt, e3⟩ := List.getElem?_eq_some_iff.mp hr'
        have h1 := ((tups_ok 3 (by decide)).2 i lt).2
        have er : (tups 3).getD i [] = r := by rw [List.getD_eq_getElem?_getD, hr']; rfl
        rw [er] at h1
        have il : i < 27 := lt
        obtain ⟨x, y, z, rfl⟩ : ∃ x y z, r = [x, y, z] := by
          match r, h1.1 with
          | [x, y, z], _ => exact ⟨x, y, z, rfl⟩
        have r3 : ∀ a ∈ [x, y, z], a < 3 := fun a ha => of_decide_eq_true (List.all_eq_true.mp h1.2 a ha)
        refine ⟨ra, iv [x, y, z], rfl, st_of (pc.2.1 _ _ hra), rfl, _, _, rfl, _, _, rfl, _, _, rfl, rfl, rfl, ?_⟩
        refine cw_turn pc (by omega) et_yes fun _ => ?_
        rw [er]
        have e9 : tab [x, y, z] = (⟨#[48 + x]⟩ : Str) ++ ⟨#[48 + y]⟩ ++ ⟨#[48 + z]⟩ := rfl
        rw [e9]
        exact ev_glue (ev_glue (ev_strInt (ev_var rfl) (r3 x (by simp))) (ev_strInt (ev_var rfl) (r3 y (by simp))) (by show 2 ≤ 1000; decide)) (ev_strInt (ev_var rfl) (r3 z (by simp))) (by show 3 ≤ 1000; decide)
      · have h3 := pc.2.2
        rw [R.len, given_iv [] (tups 3) (fun r => V.str (tab r))] at h3
        exact q D H' (fresh_back e2 pc.1) (e2.trans pc.2.1) h3
    -- the first looks
    have em : ((tups 3).map fun r => V.str (tab r)) = ((tups 3).map tab).map V.str := by rw [List.map_map]; rfl
    rw [em] at h2
    refine q_pass (et_is (et_or (et_test (ev_sameD (d := .tuple (((tups 3).map tab).map PyData.str)) (evd_tupD (xs := ((tups 3).map tab).map V.str) (eu_def ea_nil fun H3 e3 Q3 q3 => ⟨rfl, by rw [em]; exact q3⟩) fun H3 => dp_strs _)
        (evd_ref (ev_var rfl) (.tup (st_of h2) (dp_strs _))) (by decide +kernel) (by decide +kernel))) fun _ =>
      et_or (et_test (ev_op (x := .int 2) (ev_def2U (xs := [.int 1, .int 2]) ev_c (eu_tup (ea_cons ev_c (ea_cons ev_c ea_nil)) (by show 2 ≤ 100000; decide)) fun p H3 e3 hp Q3 q3 => ⟨tA, 2, p, [1, 2], okA, rfl, hp, rfl, by decide, q3⟩) ev_c (rv_ne rfl))) fun _ =>
      et_test (ev_sameD (d := .tuple (dInts [0])) (evd_tup (eu_def (ea_cons ev_c ea_nil) fun H3 e3 Q3 q3 => ⟨tB, 2, okB, rfl, by rw [vB]; exact q3⟩)) (evd_tup (eu_tup (ea_cons ev_c ea_nil) (by show 1 ≤ 100000; decide))) (by decide +kernel) (by decide +kernel))) (by decide +kernel)) fun H3 e3 => ?_
    -- answers
    refine q_asgR (K := K) (d := .list [.tuple (dInts [0, 1, 2]), .tuple (dInts [1]), .tuple (dInts [5, 3, 1]), .bool false])
      (evr_lst (evds_cons (evd_tup (eu_def (ea_cons ev_c ea_nil) fun H4 e4 Q4 q4 => ⟨tA, 2, okA, rfl, by rw [vA]; exact q4⟩))
        (evds_cons (evd_tup (eu_def (ea_cons ev_c ea_nil) fun H4 e4 Q4 q4 => ⟨tC', 1, okC, rfl, by rw [vC]; exact q4⟩))
        (evds_cons (evd_tup (eu_def (ea_cons ev_c ea_nil) fun H4 e4 Q4 q4 => ⟨tD, 2, okD, rfl, by rw [← vD] at q4; exact q4⟩))
        (evds_cons (evd_bl (ev_def (ea_cons ev_c ea_nil) fun H4 e4 Q4 q4 => ⟨tE, 2, okE, rfl, by rw [vE]; exact q4⟩)) evds_nil)))) (by show 4 ≤ 1000; decide)) fun pa H4 e4 h4 => ?_
    refine q_pass (et_test (ev_sameD (evd_ref (ev_var rfl) h4) (evd_r (evr_lst (evds_cons (evd_tup (eu_tup (ea_cons ev_c (ea_cons ev_c (ea_cons ev_c ea_nil))) (by show 3 ≤ 100000; decide)))
        (evds_cons (evd_tup (eu_tup (ea_cons ev_c ea_nil) (by show 1 ≤ 100000; decide)))
        (evds_cons (evd_tup (eu_tup (ea_cons ev_c (ea_cons ev_c (ea_cons ev_c ea_nil))) (by show 3 ≤ 100000; decide)))
        (evds_cons (evd_bl ev_c) evds_nil)))) (by show 4 ≤ 1000; decide))) (by decide +kernel) (by decide +kernel))) fun H5 e5 => ?_
    -- the springs
    have S5 : SqL K H5 a (ns.map V.int) := ex_l (((e2.trans e3).trans e4).trans e5) hS
    generalize em2 : (if (if 5 < (((ns.map V.int).length : Nat) : Int) then 5 else (((ns.map V.int).length : Nat) : Int)) > 2 then (if 5 < (((ns.map V.int).length : Nat) : Int) then 5 else (((ns.map V.int).length : Nat) : Int)) else 2) = m
    have m05 : 0 ≤ m ∧ m ≤ 5 := by
      rw [← em2]
      split <;> split <;> omega
    refine s_ret (v := .bl ((List.replicate m.toNat true).all id)) (ev_allN ?_) fun H6 e6 => ?_
    · have eg : (List.replicate m.toNat true).map V.bl = given m.toNat (fun _ => true) (fun _ => .bl true) := by
        unfold given
        rw [List.filter_eq_self.mpr fun _ _ => rfl, List.map_replicate, List.map_const', List.length_range]
      rw [eg]
      refine el_lcR1 (n := m) (fun _ => true) (fun _ => .bl true) ?_ ⟨m05.1, by omega⟩ (fun x => rfl) (fun i H1 e hi => et_yes) (fun i H1 e hi _ => ?_)
      · rw [← em2]
        exact ea_cons (ev_most ev_c (ev_least (ev_lenSq (ev_var rfl) S5) ev_c)) ea_nil
      · exact fun H7 e7 Q7 q => ⟨_, rfl, _, rfl, a, ns, (i : Int), rfl, ex_l (e.trans e7) S5, many, by omega, by omega, fun p H8 hp e8 S8 =>
          ⟨p, rfl, S8, fun H9 b9 => q H9 fun b o hb => b9 _ _ (ne_of_none hb hp) (e8 _ _ hb)⟩⟩
    · have e9 : ∀ m : Nat, (List.replicate m true).all id = true := fun m => by simp
      rw [e9]
      exact k H6
end
end Tv

namespace Tv
open PySem PySem.Spec PyProof.Rows L2 Evl
theorem gather {l : PySem.W.OpenLaw} {w : World} {K : PySem.W.Frag} {h : Heap} {mg : Str → Option Value} {fa : Addr} (KZ : K.In h) (gl : h.Ns mainGlobals mg) (named : mg "law" = some (.ref fa))
    {f0 : Addr} {od0 an0 : Option Addr} {sl0 : Array (Option Value)} {oc0 kV0 dc0 pm0 cd0 ct0 : Value}
    (a0 : PySem.W.nsIn K mainGlobals "is_integer" = some (some (.ref f0)))
    (l0 : K.lookup f0 = some ⟨oc0, od0, .func (PySem.W.fnOf "is_integer" "is_integer" (defArgs sis_integer) (defBody sis_integer) (defScope sis_integer) .none kV0 dc0 pm0 an0 cd0 ct0), sl0⟩)
    (c0 : PySem.W.codeIn K cd0 "is_integer" = true)
    (k0 : PySem.W.keepIn K (.ref f0) = true)
    {f1 : Addr} {od1 an1 : Option Addr} {sl1 : Array (Option Value)} {oc1 kV1 dc1 pm1 cd1 ct1 : Value}
    (a1 : PySem.W.nsIn K mainGlobals "is_index" = some (some (.ref f1)))
    (l1 : K.lookup f1 = some ⟨oc1, od1, .func (PySem.W.fnOf "is_index" "is_index" (defArgs sis_index) (defBody sis_index) (defScope sis_index) .none kV1 dc1 pm1 an1 cd1 ct1), sl1⟩)
    (c1 : PySem.W.codeIn K cd1 "is_index" = true)
    (k1 : PySem.W.keepIn K (.ref f1) = true)
    {f2 : Addr} {od2 an2 : Option Addr} {sl2 : Array (Option Value)} {oc2 kV2 dc2 pm2 cd2 ct2 : Value}
    (a2 : PySem.W.nsIn K mainGlobals "is_value" = some (some (.ref f2)))
    (l2 : K.lookup f2 = some ⟨oc2, od2, .func (PySem.W.fnOf "is_value" "is_value" (defArgs sis_value) (defBody sis_value) (defScope sis_value) .none kV2 dc2 pm2 an2 cd2 ct2), sl2⟩)
    (c2 : PySem.W.codeIn K cd2 "is_value" = true)
    (k2 : PySem.W.keepIn K (.ref f2) = true)
    {f3 : Addr} {od3 an3 : Option Addr} {sl3 : Array (Option Value)} {oc3 kV3 dc3 pm3 cd3 ct3 : Value}
    (a3 : PySem.W.nsIn K mainGlobals "are_arguments" = some (some (.ref f3)))
    (l3 : K.lookup f3 = some ⟨oc3, od3, .func (PySem.W.fnOf "are_arguments" "are_arguments" (defArgs sare_arguments) (defBody sare_arguments) (defScope sare_arguments) .none kV3 dc3 pm3 an3 cd3 ct3), sl3⟩)
    (c3 : PySem.W.codeIn K cd3 "are_arguments" = true)
    (k3 : PySem.W.keepIn K (.ref f3) = true)
    {f4 : Addr} {od4 an4 : Option Addr} {sl4 : Array (Option Value)} {oc4 kV4 dc4 pm4 cd4 ct4 : Value}
    (a4 : PySem.W.nsIn K mainGlobals "is_table" = some (some (.ref f4)))
    (l4 : K.lookup f4 = some ⟨oc4, od4, .func (PySem.W.fnOf "is_table" "is_table" (defArgs sis_table) (defBody sis_table) (defScope sis_table) .none kV4 dc4 pm4 an4 cd4 ct4), sl4⟩)
    (c4 : PySem.W.codeIn K cd4 "is_table" = true)
    (k4 : PySem.W.keepIn K (.ref f4) = true)
    {f5 : Addr} {od5 an5 : Option Addr} {sl5 : Array (Option Value)} {oc5 kV5 dc5 pm5 cd5 ct5 : Value}
    (a5 : PySem.W.nsIn K mainGlobals "must_be_table" = some (some (.ref f5)))
    (l5 : K.lookup f5 = some ⟨oc5, od5, .func (PySem.W.fnOf "must_be_table" "must_be_table" (defArgs smust_be_table) (defBody smust_be_table) (defScope smust_be_table) .none kV5 dc5 pm5 an5 cd5 ct5), sl5⟩)
    (c5 : PySem.W.codeIn K cd5 "must_be_table" = true)
    (k5 : PySem.W.keepIn K (.ref f5) = true)
    {f6 : Addr} {od6 an6 : Option Addr} {sl6 : Array (Option Value)} {oc6 kV6 dc6 pm6 cd6 ct6 : Value}
    (a6 : PySem.W.nsIn K mainGlobals "index_at" = some (some (.ref f6)))
    (l6 : K.lookup f6 = some ⟨oc6, od6, .func (PySem.W.fnOf "index_at" "index_at" (defArgs sindex_at) (defBody sindex_at) (defScope sindex_at) .none kV6 dc6 pm6 an6 cd6 ct6), sl6⟩)
    (c6 : PySem.W.codeIn K cd6 "index_at" = true)
    (k6 : PySem.W.keepIn K (.ref f6) = true)
    {f7 : Addr} {od7 an7 : Option Addr} {sl7 : Array (Option Value)} {oc7 kV7 dc7 pm7 cd7 ct7 : Value}
    (a7 : PySem.W.nsIn K mainGlobals "all_ways" = some (some (.ref f7)))
    (l7 : K.lookup f7 = some ⟨oc7, od7, .func (PySem.W.fnOf "all_ways" "all_ways" (defArgs sall_ways) (defBody sall_ways) (defScope sall_ways) .none kV7 dc7 pm7 an7 cd7 ct7), sl7⟩)
    (c7 : PySem.W.codeIn K cd7 "all_ways" = true)
    (k7 : PySem.W.keepIn K (.ref f7) = true)
    {f8 : Addr} {od8 an8 : Option Addr} {sl8 : Array (Option Value)} {oc8 kV8 dc8 pm8 cd8 ct8 : Value}
    (a8 : PySem.W.nsIn K mainGlobals "all_arguments" = some (some (.ref f8)))
    (l8 : K.lookup f8 = some ⟨oc8, od8, .func (PySem.W.fnOf "all_arguments" "all_arguments" (defArgs sall_arguments) (defBody sall_arguments) (defScope sall_arguments) .none kV8 dc8 pm8 an8 cd8 ct8), sl8⟩)
    (c8 : PySem.W.codeIn K cd8 "all_arguments" = true)
    (k8 : PySem.W.keepIn K (.ref f8) = true)
    {f9 : Addr} {od9 an9 : Option Addr} {sl9 : Array (Option Value)} {oc9 kV9 dc9 pm9 cd9 ct9 : Value}
    (a9 : PySem.W.nsIn K mainGlobals "places" = some (some (.ref f9)))
    (l9 : K.lookup f9 = some ⟨oc9, od9, .func (PySem.W.fnOf "places" "places" (defArgs splaces) (defBody splaces) (defScope splaces) .none kV9 dc9 pm9 an9 cd9 ct9), sl9⟩)
    (c9 : PySem.W.codeIn K cd9 "places" = true)
    (k9 : PySem.W.keepIn K (.ref f9) = true)
    {f10 : Addr} {od10 an10 : Option Addr} {sl10 : Array (Option Value)} {oc10 kV10 dc10 pm10 cd10 ct10 : Value}
    (a10 : PySem.W.nsIn K mainGlobals "value" = some (some (.ref f10)))
    (l10 : K.lookup f10 = some ⟨oc10, od10, .func (PySem.W.fnOf "value" "value" (defArgs svalue) (defBody svalue) (defScope svalue) .none kV10 dc10 pm10 an10 cd10 ct10), sl10⟩)
    (c10 : PySem.W.codeIn K cd10 "value" = true)
    (k10 : PySem.W.keepIn K (.ref f10) = true)
    {f11 : Addr} {od11 an11 : Option Addr} {sl11 : Array (Option Value)} {oc11 kV11 dc11 pm11 cd11 ct11 : Value}
    (a11 : PySem.W.nsIn K mainGlobals "counts" = some (some (.ref f11)))
    (l11 : K.lookup f11 = some ⟨oc11, od11, .func (PySem.W.fnOf "counts" "counts" (defArgs scounts) (defBody scounts) (defScope scounts) .none kV11 dc11 pm11 an11 cd11 ct11), sl11⟩)
    (c11 : PySem.W.codeIn K cd11 "counts" = true)
    (k11 : PySem.W.keepIn K (.ref f11) = true)
    {f12 : Addr} {od12 an12 : Option Addr} {sl12 : Array (Option Value)} {oc12 kV12 dc12 pm12 cd12 ct12 : Value}
    (a12 : PySem.W.nsIn K mainGlobals "counting" = some (some (.ref f12)))
    (l12 : K.lookup f12 = some ⟨oc12, od12, .func (PySem.W.fnOf "counting" "counting" (defArgs scounting) (defBody scounting) (defScope scounting) .none kV12 dc12 pm12 an12 cd12 ct12), sl12⟩)
    (c12 : PySem.W.codeIn K cd12 "counting" = true)
    (k12 : PySem.W.keepIn K (.ref f12) = true)
    {f13 : Addr} {od13 an13 : Option Addr} {sl13 : Array (Option Value)} {oc13 kV13 dc13 pm13 cd13 ct13 : Value}
    (a13 : PySem.W.nsIn K mainGlobals "is_onto" = some (some (.ref f13)))
    (l13 : K.lookup f13 = some ⟨oc13, od13, .func (PySem.W.fnOf "is_onto" "is_onto" (defArgs sis_onto) (defBody sis_onto) (defScope sis_onto) .none kV13 dc13 pm13 an13 cd13 ct13), sl13⟩)
    (c13 : PySem.W.codeIn K cd13 "is_onto" = true)
    (k13 : PySem.W.keepIn K (.ref f13) = true)
    {f14 : Addr} {od14 an14 : Option Addr} {sl14 : Array (Option Value)} {oc14 kV14 dc14 pm14 cd14 ct14 : Value}
    (a14 : PySem.W.nsIn K mainGlobals "fixed" = some (some (.ref f14)))
    (l14 : K.lookup f14 = some ⟨oc14, od14, .func (PySem.W.fnOf "fixed" "fixed" (defArgs sfixed) (defBody sfixed) (defScope sfixed) .none kV14 dc14 pm14 an14 cd14 ct14), sl14⟩)
    (c14 : PySem.W.codeIn K cd14 "fixed" = true)
    (k14 : PySem.W.keepIn K (.ref f14) = true)
    {f15 : Addr} {od15 an15 : Option Addr} {sl15 : Array (Option Value)} {oc15 kV15 dc15 pm15 cd15 ct15 : Value}
    (a15 : PySem.W.nsIn K mainGlobals "digits_of" = some (some (.ref f15)))
    (l15 : K.lookup f15 = some ⟨oc15, od15, .func (PySem.W.fnOf "digits_of" "digits_of" (defArgs sdigits_of) (defBody sdigits_of) (defScope sdigits_of) .none kV15 dc15 pm15 an15 cd15 ct15), sl15⟩)
    (c15 : PySem.W.codeIn K cd15 "digits_of" = true)
    (k15 : PySem.W.keepIn K (.ref f15) = true)
    {f16 : Addr} {od16 an16 : Option Addr} {sl16 : Array (Option Value)} {oc16 kV16 dc16 pm16 cd16 ct16 : Value}
    (a16 : PySem.W.nsIn K mainGlobals "all_tables" = some (some (.ref f16)))
    (l16 : K.lookup f16 = some ⟨oc16, od16, .func (PySem.W.fnOf "all_tables" "all_tables" (defArgs sall_tables) (defBody sall_tables) (defScope sall_tables) .none kV16 dc16 pm16 an16 cd16 ct16), sl16⟩)
    (c16 : PySem.W.codeIn K cd16 "all_tables" = true)
    (k16 : PySem.W.keepIn K (.ref f16) = true)
    {f17 : Addr} {od17 an17 : Option Addr} {sl17 : Array (Option Value)} {oc17 kV17 dc17 pm17 cd17 ct17 : Value}
    (a17 : PySem.W.nsIn K mainGlobals "_law_spring" = some (some (.ref f17)))
    (l17 : K.lookup f17 = some ⟨oc17, od17, .func (PySem.W.fnOf "_law_spring" "_law_spring" (defArgs slaw_spring) (defBody slaw_spring) (defScope slaw_spring) .none kV17 dc17 pm17 an17 cd17 ct17), sl17⟩)
    (c17 : PySem.W.codeIn K cd17 "_law_spring" = true)
    (k17 : PySem.W.keepIn K (.ref f17) = true)
    {f18 : Addr} {od18 an18 : Option Addr} {sl18 : Array (Option Value)} {oc18 kV18 dc18 pm18 cd18 ct18 : Value}
    (a18 : PySem.W.nsIn K mainGlobals "_law_draw" = some (some (.ref f18)))
    (l18 : K.lookup f18 = some ⟨oc18, od18, .func (PySem.W.fnOf "_law_draw" "_law_draw" (defArgs slaw_draw) (defBody slaw_draw) (defScope slaw_draw) .none kV18 dc18 pm18 an18 cd18 ct18), sl18⟩)
    (c18 : PySem.W.codeIn K cd18 "_law_draw" = true)
    (k18 : PySem.W.keepIn K (.ref f18) = true)
    {f19 : Addr} {od19 an19 : Option Addr} {sl19 : Array (Option Value)} {oc19 kV19 dc19 pm19 cd19 ct19 : Value}
    (a19 : PySem.W.nsIn K mainGlobals "_law_of" = some (some (.ref f19)))
    (l19 : K.lookup f19 = some ⟨oc19, od19, .func (PySem.W.fnOf "_law_of" "_law_of" (defArgs slaw_of) (defBody slaw_of) (defScope slaw_of) .none kV19 dc19 pm19 an19 cd19 ct19), sl19⟩)
    (c19 : PySem.W.codeIn K cd19 "_law_of" = true)
    (k19 : PySem.W.keepIn K (.ref f19) = true)
    {f20 : Addr} {od20 an20 : Option Addr} {sl20 : Array (Option Value)} {oc20 kV20 dc20 pm20 cd20 ct20 : Value}
    (a20 : PySem.W.nsIn K mainGlobals "_law_tuples" = some (some (.ref f20)))
    (l20 : K.lookup f20 = some ⟨oc20, od20, .func (PySem.W.fnOf "_law_tuples" "_law_tuples" (defArgs slaw_tuples) (defBody slaw_tuples) (defScope slaw_tuples) .none kV20 dc20 pm20 an20 cd20 ct20), sl20⟩)
    (c20 : PySem.W.codeIn K cd20 "_law_tuples" = true)
    (k20 : PySem.W.keepIn K (.ref f20) = true)
    {f21 : Addr} {od21 an21 : Option Addr} {sl21 : Array (Option Value)} {oc21 kV21 dc21 pm21 cd21 ct21 : Value}
    (a21 : PySem.W.nsIn K mainGlobals "_law_at" = some (some (.ref f21)))
    (l21 : K.lookup f21 = some ⟨oc21, od21, .func (PySem.W.fnOf "_law_at" "_law_at" (defArgs slaw_at) (defBody slaw_at) (defScope slaw_at) .none kV21 dc21 pm21 an21 cd21 ct21), sl21⟩)
    (c21 : PySem.W.codeIn K cd21 "_law_at" = true)
    (k21 : PySem.W.keepIn K (.ref f21) = true)
    {f22 : Addr} {od22 an22 : Option Addr} {sl22 : Array (Option Value)} {oc22 kV22 dc22 pm22 cd22 ct22 : Value}
    (a22 : PySem.W.nsIn K mainGlobals "_law_places" = some (some (.ref f22)))
    (l22 : K.lookup f22 = some ⟨oc22, od22, .func (PySem.W.fnOf "_law_places" "_law_places" (defArgs slaw_places) (defBody slaw_places) (defScope slaw_places) .none kV22 dc22 pm22 an22 cd22 ct22), sl22⟩)
    (c22 : PySem.W.codeIn K cd22 "_law_places" = true)
    (k22 : PySem.W.keepIn K (.ref f22) = true)
    {f23 : Addr} {od23 an23 : Option Addr} {sl23 : Array (Option Value)} {oc23 kV23 dc23 pm23 cd23 ct23 : Value}
    (a23 : PySem.W.nsIn K mainGlobals "_law_counting" = some (some (.ref f23)))
    (l23 : K.lookup f23 = some ⟨oc23, od23, .func (PySem.W.fnOf "_law_counting" "_law_counting" (defArgs slaw_counting) (defBody slaw_counting) (defScope slaw_counting) .none kV23 dc23 pm23 an23 cd23 ct23), sl23⟩)
    (c23 : PySem.W.codeIn K cd23 "_law_counting" = true)
    (k23 : PySem.W.keepIn K (.ref f23) = true)
    {f24 : Addr} {od24 an24 : Option Addr} {sl24 : Array (Option Value)} {oc24 kV24 dc24 pm24 cd24 ct24 : Value}
    (a24 : PySem.W.nsIn K mainGlobals "_law_table" = some (some (.ref f24)))
    (l24 : K.lookup f24 = some ⟨oc24, od24, .func (PySem.W.fnOf "_law_table" "_law_table" (defArgs slaw_table) (defBody slaw_table) (defScope slaw_table) .none kV24 dc24 pm24 an24 cd24 ct24), sl24⟩)
    (c24 : PySem.W.codeIn K cd24 "_law_table" = true)
    (k24 : PySem.W.keepIn K (.ref f24) = true)
    {f25 : Addr} {od25 an25 : Option Addr} {sl25 : Array (Option Value)} {oc25 kV25 dc25 pm25 cd25 ct25 : Value}
    (a25 : PySem.W.nsIn K mainGlobals "_law_right" = some (some (.ref f25)))
    (l25 : K.lookup f25 = some ⟨oc25, od25, .func (PySem.W.fnOf "_law_right" "_law_right" (defArgs slaw_right) (defBody slaw_right) (defScope slaw_right) .none kV25 dc25 pm25 an25 cd25 ct25), sl25⟩)
    (c25 : PySem.W.codeIn K cd25 "_law_right" = true)
    (k25 : PySem.W.keepIn K (.ref f25) = true)
    {f26 : Addr} {od26 an26 : Option Addr} {sl26 : Array (Option Value)} {oc26 kV26 dc26 pm26 cd26 ct26 : Value}
    (a26 : PySem.W.nsIn K mainGlobals "law" = some (some (.ref f26)))
    (l26 : K.lookup f26 = some ⟨oc26, od26, .func (PySem.W.fnOf "law" "law" (defArgs slaw) (defBody slaw) (defScope slaw) .none kV26 dc26 pm26 an26 cd26 ct26), sl26⟩)
    (c26 : PySem.W.codeIn K cd26 "law" = true)
    (k26 : PySem.W.keepIn K (.ref f26) = true)
    (z_len : PySem.W.nsIn K mainGlobals "len" = some none)
    (z_isinstance : PySem.W.nsIn K mainGlobals "isinstance" = some none)
    (z_all : PySem.W.nsIn K mainGlobals "all" = some none)
    (z_any : PySem.W.nsIn K mainGlobals "any" = some none)
    (z_abs : PySem.W.nsIn K mainGlobals "abs" = some none)
    (z_divmod : PySem.W.nsIn K mainGlobals "divmod" = some none)
    (z_repr : PySem.W.nsIn K mainGlobals "repr" = some none)
    (z_range : PySem.W.nsIn K mainGlobals "range" = some none)
    (z_max : PySem.W.nsIn K mainGlobals "max" = some none)
    (z_min : PySem.W.nsIn K mainGlobals "min" = some none)
    (z_int : PySem.W.nsIn K mainGlobals "int" = some none)
    (z_str : PySem.W.nsIn K mainGlobals "str" = some none)
    (z_bool : PySem.W.nsIn K mainGlobals "bool" = some none)
    (z_tuple : PySem.W.nsIn K mainGlobals "tuple" = some none)
    (z_set : PySem.W.nsIn K mainGlobals "set" = some none)
    {aL : Addr} {t1 t2 t3 : Tok} {nL : Nat} {slL : Array (Option Value)} (aLens : PySem.W.nsIn K mainGlobals "LENGTHS" = some (some (.ref aL)))
    (lLens : K.lookup aL = some ⟨.type "tuple", none, .seq #[.int 3 t1, .int 9 t2, .int 27 t3] nL, slL⟩)
    : ∃ fd : FuncData, (∀ (s : Shared) (v : Value), BindsTo s fd ⟨[v], []⟩ [("script", v)]) ∧ ∀ base : Heap, K.In base → base.Ns mainGlobals mg → FnG l.prog w K mg base 8 fa fd ["script"] (spScript K) := by
  have e := named.symm.trans (PySem.W.mg_of KZ gl a26)
  cases e
  have B : Blt mg := ⟨PySem.W.mg_none_of KZ gl z_len, PySem.W.mg_none_of KZ gl z_isinstance, PySem.W.mg_none_of KZ gl z_all, PySem.W.mg_none_of KZ gl z_any, PySem.W.mg_none_of KZ gl z_abs, PySem.W.mg_none_of KZ gl z_divmod, PySem.W.mg_none_of KZ gl z_repr, PySem.W.mg_none_of KZ gl z_range, PySem.W.mg_none_of KZ gl z_max, PySem.W.mg_none_of KZ gl z_min, PySem.W.mg_none_of KZ gl z_int, PySem.W.mg_none_of KZ gl z_str, PySem.W.mg_none_of KZ gl z_bool, PySem.W.mg_none_of KZ gl z_tuple, PySem.W.mg_none_of KZ gl z_set⟩
  have LL : Lens K mg aL := ⟨PySem.W.mg_of KZ gl aLens, _, _, _, lLens, rfl, rfl, rfl, by show 3 ≤ sizeLine; decide, .cons ⟨_, rfl⟩ (.cons ⟨_, rfl⟩ (.cons ⟨_, rfl⟩ .nil))⟩
  refine ⟨PySem.W.fnOf "law" "law" (defArgs slaw) (defBody slaw) (defScope slaw) .none kV26 dc26 pm26 an26 cd26 ct26, fun s v => .of_eq rfl, fun base _ _ => ?_⟩
  have F0 := fun_mk (st := sis_integer) l0 c0 k0
  have D0 : DefG l.prog w K mg base "is_integer" ["x"] 1 spIsInt :=
    ⟨f0, _, PySem.W.mg_of KZ gl a0, k0, F0.binds (ps := ["x"]) fun _ _ _ _ _ _ us hl => match us, hl with | [_], _ => rfl,
      ok_is_integer F0 B, fun s ws hl _ => match ws, hl with | [_], _ => .of_eq rfl⟩
  have F1 := fun_mk (st := sis_index) l1 c1 k1
  have D1 : DefG l.prog w K mg base "is_index" ["x", "count"] 2 spIsIndex :=
    ⟨f1, _, PySem.W.mg_of KZ gl a1, k1, F1.binds (ps := ["x", "count"]) fun _ _ _ _ _ _ us hl => match us, hl with | [_, _], _ => rfl,
      ok_is_index F1 B D0, fun s ws hl _ => match ws, hl with | [_, _], _ => .of_eq rfl⟩
  have F2 := fun_mk (st := sis_value) l2 c2 k2
  have D2 : DefG l.prog w K mg base "is_value" ["x"] 3 spIsValue :=
    ⟨f2, _, PySem.W.mg_of KZ gl a2, k2, F2.binds (ps := ["x"]) fun _ _ _ _ _ _ us hl => match us, hl with | [_], _ => rfl,
      ok_is_value F2 B D1, fun s ws hl _ => match ws, hl with | [_], _ => .of_eq rfl⟩
  have F3 := fun_mk (st := sare_arguments) l3 c3 k3
  have D3 : DefG l.prog w K mg base "are_arguments" ["x", "count"] 4 spAreArgs :=
    ⟨f3, _, PySem.W.mg_of KZ gl a3, k3, F3.binds (ps := ["x", "count"]) fun _ _ _ _ _ _ us hl => match us, hl with | [_, _], _ => rfl,
      ok_are_arguments F3 B D2, fun s ws hl _ => match ws, hl with | [_, _], _ => .of_eq rfl⟩
  have F4 := fun_mk (st := sis_table) l4 c4 k4
  have D4 : DefG l.prog w K mg base "is_table" ["x"] 1 spIsTable :=
    ⟨f4, _, PySem.W.mg_of KZ gl a4, k4, F4.binds (ps := ["x"]) fun _ _ _ _ _ _ us hl => match us, hl with | [_], _ => rfl,
      ok_is_table F4 B LL, fun s ws hl _ => match ws, hl with | [_], _ => .of_eq rfl⟩
  have F5 := fun_mk (st := smust_be_table) l5 c5 k5
  have D5 : DefG l.prog w K mg base "must_be_table" ["x"] 2 spMust :=
    ⟨f5, _, PySem.W.mg_of KZ gl a5, k5, F5.binds (ps := ["x"]) fun _ _ _ _ _ _ us hl => match us, hl with | [_], _ => rfl,
      ok_must_be_table F5 D4, fun s ws hl _ => match ws, hl with | [_], _ => .of_eq rfl⟩
  have F6 := fun_mk (st := sindex_at) l6 c6 k6
  have D6 : DefG l.prog w K mg base "index_at" ["arguments"] 1 spIndexAt :=
    ⟨f6, _, PySem.W.mg_of KZ gl a6, k6, F6.binds (ps := ["arguments"]) fun _ _ _ _ _ _ us hl => match us, hl with | [_], _ => rfl,
      ok_index_at F6 , fun s ws hl _ => match ws, hl with | [_], _ => .of_eq rfl⟩
  have F7 := fun_mk (st := sall_ways) l7 c7 k7
  have D7 : DefG l.prog w K mg base "all_ways" ["lots"] 1 spWays :=
    ⟨f7, _, PySem.W.mg_of KZ gl a7, k7, F7.binds (ps := ["lots"]) fun _ _ _ _ _ _ us hl => match us, hl with | [_], _ => rfl,
      ok_all_ways F7 , fun s ws hl _ => match ws, hl with | [_], _ => .of_eq rfl⟩
  have F8 := fun_mk (st := sall_arguments) l8 c8 k8
  have D8 : DefG l.prog w K mg base "all_arguments" ["count"] 2 spAllArgs :=
    ⟨f8, _, PySem.W.mg_of KZ gl a8, k8, F8.binds (ps := ["count"]) fun _ _ _ _ _ _ us hl => match us, hl with | [_], _ => rfl,
      ok_all_arguments F8 D7, fun s ws hl _ => match ws, hl with | [_], _ => .of_eq rfl⟩
  have F9 := fun_mk (st := splaces) l9 c9 k9
  have D9 : DefG l.prog w K mg base "places" ["table"] 3 spPlaces :=
    ⟨f9, _, PySem.W.mg_of KZ gl a9, k9, F9.binds (ps := ["table"]) fun _ _ _ _ _ _ us hl => match us, hl with | [_], _ => rfl,
      ok_places F9 B LL D5, fun s ws hl _ => match ws, hl with | [_], _ => .of_eq rfl⟩
  have F10 := fun_mk (st := svalue) l10 c10 k10
  have D10 : DefG l.prog w K mg base "value" ["table", "arguments"] 5 spValue :=
    ⟨f10, _, PySem.W.mg_of KZ gl a10, k10, F10.binds (ps := ["table", "arguments"]) fun _ _ _ _ _ _ us hl => match us, hl with | [_, _], _ => rfl,
      ok_value F10 B D9 D3 D6, fun s ws hl _ => match ws, hl with | [_, _], _ => .of_eq rfl⟩
  have F11 := fun_mk (st := scounts) l11 c11 k11
  have D11 : DefG l.prog w K mg base "counts" ["table", "place"] 1 spCounts :=
    ⟨f11, _, PySem.W.mg_of KZ gl a11, k11, F11.binds (ps := ["table", "place"]) fun _ _ _ _ _ _ us hl => match us, hl with | [_, _], _ => rfl,
      ok_counts F11 B LL, fun s ws hl _ => match ws, hl with | [_, _], _ => .of_eq rfl⟩
  have F12 := fun_mk (st := scounting) l12 c12 k12
  have D12 : DefG l.prog w K mg base "counting" ["table"] 4 spCounting :=
    ⟨f12, _, PySem.W.mg_of KZ gl a12, k12, F12.binds (ps := ["table"]) fun _ _ _ _ _ _ us hl => match us, hl with | [_], _ => rfl,
      ok_counting F12 B D9 D11, fun s ws hl _ => match ws, hl with | [_], _ => .of_eq rfl⟩
  have F13 := fun_mk (st := sis_onto) l13 c13 k13
  have D13 : DefG l.prog w K mg base "is_onto" ["table"] 3 spOnto :=
    ⟨f13, _, PySem.W.mg_of KZ gl a13, k13, F13.binds (ps := ["table"]) fun _ _ _ _ _ _ us hl => match us, hl with | [_], _ => rfl,
      ok_is_onto F13 B D5, fun s ws hl _ => match ws, hl with | [_], _ => .of_eq rfl⟩
  have F14 := fun_mk (st := sfixed) l14 c14 k14
  have D14 : DefG l.prog w K mg base "fixed" ["table"] 6 spFixed :=
    ⟨f14, _, PySem.W.mg_of KZ gl a14, k14, F14.binds (ps := ["table"]) fun _ _ _ _ _ _ us hl => match us, hl with | [_], _ => rfl,
      ok_fixed F14 B D9 D10, fun s ws hl _ => match ws, hl with | [_], _ => .of_eq rfl⟩
  have F15 := fun_mk (st := sdigits_of) l15 c15 k15
  have D15 : DefG l.prog w K mg base "digits_of" ["table"] 3 spDigits :=
    ⟨f15, _, PySem.W.mg_of KZ gl a15, k15, F15.binds (ps := ["table"]) fun _ _ _ _ _ _ us hl => match us, hl with | [_], _ => rfl,
      ok_digits_of F15 B D5, fun s ws hl _ => match ws, hl with | [_], _ => .of_eq rfl⟩
  have F16 := fun_mk (st := sall_tables) l16 c16 k16
  have D16 : DefG l.prog w K mg base "all_tables" [] 3 spAllTables :=
    ⟨f16, _, PySem.W.mg_of KZ gl a16, k16, F16.binds (ps := []) fun _ _ _ _ _ _ us hl => match us, hl with | [], _ => rfl,
      ok_all_tables F16 B D8, fun s ws hl _ => match ws, hl with | [], _ => .of_eq rfl⟩
  have F17 := fun_mk (st := slaw_spring) l17 c17 k17
  have D17 : DefG l.prog w K mg base "_law_spring" ["cells", "k"] 1 (spSpring K) :=
    ⟨f17, _, PySem.W.mg_of KZ gl a17, k17, F17.binds (ps := ["cells", "k"]) fun _ _ _ _ _ _ us hl => match us, hl with | [_, _], _ => rfl,
      ok_spring F17 B, fun s ws hl _ => match ws, hl with | [_, _], _ => .of_eq rfl⟩
  have F18 := fun_mk (st := slaw_draw) l18 c18 k18
  have D18 : DefG l.prog w K mg base "_law_draw" ["spring", "size"] 1 spDraw :=
    ⟨f18, _, PySem.W.mg_of KZ gl a18, k18, F18.binds (ps := ["spring", "size"]) fun _ _ _ _ _ _ us hl => match us, hl with | [_, _], _ => rfl,
      ok_draw F18 B, fun s ws hl _ => match ws, hl with | [_, _], _ => .of_eq rfl⟩
  have F19 := fun_mk (st := slaw_of) l19 c19 k19
  have D19 : DefG l.prog w K mg base "_law_of" ["spring", "menu"] 2 (spOf K) :=
    ⟨f19, _, PySem.W.mg_of KZ gl a19, k19, F19.binds (ps := ["spring", "menu"]) fun _ _ _ _ _ _ us hl => match us, hl with | [_, _], _ => rfl,
      ok_of F19 B D18, fun s ws hl _ => match ws, hl with | [_, _], _ => .of_eq rfl⟩
  have F20 := fun_mk (st := slaw_tuples) l20 c20 k20
  have D20 : DefG l.prog w K mg base "_law_tuples" ["size"] 1 spAllArgs :=
    ⟨f20, _, PySem.W.mg_of KZ gl a20, k20, F20.binds (ps := ["size"]) fun _ _ _ _ _ _ us hl => match us, hl with | [_], _ => rfl,
      ok_tuples F20 B, fun s ws hl _ => match ws, hl with | [_], _ => .of_eq rfl⟩
  have F21 := fun_mk (st := slaw_at) l21 c21 k21
  have D21 : DefG l.prog w K mg base "_law_at" ["sheet_now", "some"] 1 spValue :=
    ⟨f21, _, PySem.W.mg_of KZ gl a21, k21, F21.binds (ps := ["sheet_now", "some"]) fun _ _ _ _ _ _ us hl => match us, hl with | [_, _], _ => rfl,
      ok_at F21 B, fun s ws hl _ => match ws, hl with | [_, _], _ => .of_eq rfl⟩
  have F22 := fun_mk (st := slaw_places) l22 c22 k22
  have D22 : DefG l.prog w K mg base "_law_places" ["sheet_now"] 1 spPlaces :=
    ⟨f22, _, PySem.W.mg_of KZ gl a22, k22, F22.binds (ps := ["sheet_now"]) fun _ _ _ _ _ _ us hl => match us, hl with | [_], _ => rfl,
      ok_lplaces F22 B, fun s ws hl _ => match ws, hl with | [_], _ => .of_eq rfl⟩
  have F23 := fun_mk (st := slaw_counting) l23 c23 k23
  have D23 : DefG l.prog w K mg base "_law_counting" ["sheet_now"] 2 spLCounting :=
    ⟨f23, _, PySem.W.mg_of KZ gl a23, k23, F23.binds (ps := ["sheet_now"]) fun _ _ _ _ _ _ us hl => match us, hl with | [_], _ => rfl,
      ok_lcounting F23 B D22 D20 D21, fun s ws hl _ => match ws, hl with | [_], _ => .of_eq rfl⟩
  have F24 := fun_mk (st := slaw_table) l24 c24 k24
  have D24 : DefG l.prog w K mg base "_law_table" ["spring", "size"] 3 spTable :=
    ⟨f24, _, PySem.W.mg_of KZ gl a24, k24, F24.binds (ps := ["spring", "size"]) fun _ _ _ _ _ _ us hl => match us, hl with | [_, _], _ => rfl,
      ok_table F24 B D18 D19, fun s ws hl _ => match ws, hl with | [_, _], _ => .of_eq rfl⟩
  have F25 := fun_mk (st := slaw_right) l25 c25 k25
  have D25 : DefG l.prog w K mg base "_law_right" ["spring"] 7 spRight :=
    ⟨f25, _, PySem.W.mg_of KZ gl a25, k25, F25.binds (ps := ["spring"]) fun _ _ _ _ _ _ us hl => match us, hl with | [_], _ => rfl,
      ok_right F25 B D19 D24 D20 D21 D23 D10 D9 D12 D15 D13 D14, fun s ws hl _ => match ws, hl with | [_], _ => .of_eq rfl⟩
  have F26 := fun_mk (st := slaw) l26 c26 k26
  exact ok_law F26 B D20 D16 D10 D12 D14 D15 D13 D17 D25
end Tv
open PySem PySem.W PyProof.Rows
set_option maxRecDepth 100000 in
set_option maxHeartbeats 0 in
theorem PySem.Challenge.cw_threevalues_k02_whole_tables_read_holds : PySem.Challenge.rw_threevalues_k02_whole_tables_read.Holds := by
  w_on; o_law; k_head; (case hw => w_witness2)
  k_fill
  refine Tv.ends (x := "script") (l := PySem.Challenge.rw_threevalues_k02_whole_tables_read) (lev := 8) (sp := Tv.spScript) rfl rfl ⟨rfl, by decide, by decide⟩ (fun w h Y => PySem.W.kIn_of Y) ?F fun K T r is few S => ⟨r, is, rfl, S, few, fun _ => rfl⟩
  case F =>
    intro w mg fa h KX G hmg
    refine' Tv.gather KX G hmg ?a0 ?l0 ?c0 ?k0 ?a1 ?l1 ?c1 ?k1 ?a2 ?l2 ?c2 ?k2 ?a3 ?l3 ?c3 ?k3 ?a4 ?l4 ?c4 ?k4 ?a5 ?l5 ?c5 ?k5 ?a6 ?l6 ?c6 ?k6 ?a7 ?l7 ?c7 ?k7 ?a8 ?l8 ?c8 ?k8 ?a9 ?l9 ?c9 ?k9 ?a10 ?l10 ?c10 ?k10 ?a11 ?l11 ?c11 ?k11 ?a12 ?l12 ?c12 ?k12 ?a13 ?l13 ?c13 ?k13 ?a14 ?l14 ?c14 ?k14 ?a15 ?l15 ?c15 ?k15 ?a16 ?l16 ?c16 ?k16 ?a17 ?l17 ?c17 ?k17 ?a18 ?l18 ?c18 ?k18 ?a19 ?l19 ?c19 ?k19 ?a20 ?l20 ?c20 ?k20 ?a21 ?l21 ?c21 ?k21 ?a22 ?l22 ?c22 ?k22 ?a23 ?l23 ?c23 ?k23 ?a24 ?l24 ?c24 ?k24 ?a25 ?l25 ?c25 ?k25 ?a26 ?l26 ?c26 ?k26 ?z_len ?z_isinstance ?z_all ?z_any ?z_abs ?z_divmod ?z_repr ?z_range ?z_max ?z_min ?z_int ?z_str ?z_bool ?z_tuple ?z_set ?aLens ?lLens
    (case a0 => k_is); (case l0 => k_is); (case c0 => k_is); (case k0 => k_is)
    (case a1 => k_is); (case l1 => k_is); (case c1 => k_is); (case k1 => k_is)
    (case a2 => k_is); (case l2 => k_is); (case c2 => k_is); (case k2 => k_is)
    (case a3 => k_is); (case l3 => k_is); (case c3 => k_is); (case k3 => k_is)
    (case a4 => k_is); (case l4 => k_is); (case c4 => k_is); (case k4 => k_is)
    (case a5 => k_is); (case l5 => k_is); (case c5 => k_is); (case k5 => k_is)
    (case a6 => k_is); (case l6 => k_is); (case c6 => k_is); (case k6 => k_is)
    (case a7 => k_is); (case l7 => k_is); (case c7 => k_is); (case k7 => k_is)
    (case a8 => k_is); (case l8 => k_is); (case c8 => k_is); (case k8 => k_is)
    (case a9 => k_is); (case l9 => k_is); (case c9 => k_is); (case k9 => k_is)
    (case a10 => k_is); (case l10 => k_is); (case c10 => k_is); (case k10 => k_is)
    (case a11 => k_is); (case l11 => k_is); (case c11 => k_is); (case k11 => k_is)
    (case a12 => k_is); (case l12 => k_is); (case c12 => k_is); (case k12 => k_is)
    (case a13 => k_is); (case l13 => k_is); (case c13 => k_is); (case k13 => k_is)
    (case a14 => k_is); (case l14 => k_is); (case c14 => k_is); (case k14 => k_is)
    (case a15 => k_is); (case l15 => k_is); (case c15 => k_is); (case k15 => k_is)
    (case a16 => k_is); (case l16 => k_is); (case c16 => k_is); (case k16 => k_is)
    (case a17 => k_is); (case l17 => k_is); (case c17 => k_is); (case k17 => k_is)
    (case a18 => k_is); (case l18 => k_is); (case c18 => k_is); (case k18 => k_is)
    (case a19 => k_is); (case l19 => k_is); (case c19 => k_is); (case k19 => k_is)
    (case a20 => k_is); (case l20 => k_is); (case c20 => k_is); (case k20 => k_is)
    (case a21 => k_is); (case l21 => k_is); (case c21 => k_is); (case k21 => k_is)
    (case a22 => k_is); (case l22 => k_is); (case c22 => k_is); (case k22 => k_is)
    (case a23 => k_is); (case l23 => k_is); (case c23 => k_is); (case k23 => k_is)
    (case a24 => k_is); (case l24 => k_is); (case c24 => k_is); (case k24 => k_is)
    (case a25 => k_is); (case l25 => k_is); (case c25 => k_is); (case k25 => k_is)
    (case a26 => k_is); (case l26 => k_is); (case c26 => k_is); (case k26 => k_is)
    (case z_len => k_is); (case z_isinstance => k_is); (case z_all => k_is); (case z_any => k_is)
    (case z_abs => k_is); (case z_divmod => k_is); (case z_repr => k_is); (case z_range => k_is)
    (case z_max => k_is); (case z_min => k_is); (case z_int => k_is); (case z_str => k_is)
    (case z_bool => k_is); (case z_tuple => k_is); (case z_set => k_is); (case aLens => k_is)
    (case lLens => k_is)

